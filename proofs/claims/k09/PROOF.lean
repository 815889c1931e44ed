import PyProof.Rows.All
import Wide.All
import OpenK.AllK
import Wide.FinOn
import PySem.Challenge.RW_cornerlines_k09_in_common_of_great_numbe
import HandS.ForMost
import HandS.Wide
import HandS.EndBits
import PyProof.ReprRoads
import KE.KRevSl
import HandS.IsInst
import HandS.TryOnly
import KE.DataMinMax
import HandS.TupSets
import KE.SortData
import HandS.Style
set_option Elab.async false
set_option linter.all false
set_option maxRecDepth 100000
namespace Cl
open PySem PySem.Spec PyProof.Rows L2

/-! ### promises of defs that may be shown (repr) what stands on no guard's list -/
structure RG (k : Nat) (A : Around) : Prop where
  room : Room k A
  gd : A.guards = some []
theorem RG.mono {j k : Nat} {A : Around} (r : RG k A) (h : j ≤ k) : RG j A :=
  ⟨r.room.mono h, r.gd⟩
structure FnG (P : Program) (w : World) (K : PySem.W.Frag) (mg : Str → Option Value)
    (base : Heap) (CX : CXT) (k : Nat) (f : Addr) (fd : FuncData) (ps : List Str) (sp : Sp) : Prop where
  len : ∀ vs H Q E, sp vs H Q E → vs.length = ps.length
  run : ∀ A outer s H args us vs Q E, RG k A → Env0 P w K mg base A outer s H →
    BindsTo s fd args (ps.zip us) → Vals vs us → sp vs H Q E →
    codeAny (model P w) A (.call (.ref f) args) (CR CX outer P w H s Q E) s
section
variable {P : Program} {w : World} {K : PySem.W.Frag} {mg : Str → Option Value} {base : Heap} {CX : CXT}
theorem toG {k : Nat} {f : Addr} {fd : FuncData} {ps : List Str} {sp : Sp}
    (F : FnOk P w K mg base CX k f fd ps sp) : FnG P w K mg base CX k f fd ps sp :=
  ⟨F.len, fun A outer s H args us vs Q E r => F.run A outer s H args us vs Q E r.room⟩

/-- a def with what its body does, where no guard is set -/
theorem okG {x qual : Str} {st : Stmt} {f : Addr} {fd : FuncData} {N ps : List Str} {k : Nat} {sp : Sp}
    (F : Fun K x qual st f fd) (S : FnScope N ps (defScope st))
    (len : ∀ vs H Q E, sp vs H Q E → vs.length = ps.length)
    (body : ∀ (cdv : Value) (A : Around) (outer : List Env) (s : Shared) (H : Hp) (vs : List V) (Q : VK) (E : XK),
      RG k (A.deeper (envOfC qual (defScope st) s.heap.objs.size f cdv)) → sp vs H Q E →
      ∃ t, PSs (cxOf CX0 P w K mg base N qual (defScope st) f cdv A outer s H E).nox (defBody st) t ∧
        t { nx := fun _ H' => Q .non H', rt := Q } (start N vs) H) :
    FnG P w K mg base CX0 (k + 1) f fd ps sp := by
  obtain ⟨oc, od, kV, doc, pm, an, cdv, ct, osl, rfl, lk, hcd⟩ := F.ex
  constructor
  · exact len
  intro A outer s H args us vs Q E hr e0 hb r hsp
  have nvs := len _ _ _ _ hsp
  have keepB : ∀ b o, base.get? b = some o → s.heap.get? b = some o := fun b o z => (e0.bs b o z).1
  have inK : K.In s.heap := e0.mod.kin.keeps keepB
  have nolim : s.heap.NoLimit := e0.mod.nolimit.keeps keepB
  have kinds : ∀ y ∈ ps.zip us, (defScope st).names.lookup y.1 = some .local ∨
      ((defScope st).names.lookup y.1 = some .cell ∧
        ((cellsFrom (s.heap.objs.size + 1) (defScope st).names []).lookup y.1).isSome = true) := by
    rintro ⟨n, v⟩ hy
    rcases S.par n (List.of_mem_zip hy).1 with z | z
    · exact .inl z
    · exact .inr ⟨z, PySem.W.cellsFrom_some _ _ _ (.inl z)⟩
  refine codeAny_call_function hr.room.depth (inK _ _ lk) rfl S.co S.gen rfl
    (PySem.W.codeRec_of inK hcd) (hb _ _ _ _ ?_)
  refine wpAny_newFunctionEnv_cells S.kind kinds fun env he s1 x => ?_
  subst he
  refine ⟨nolim.keeps x.toInCall.keep, codeAny_func ?_⟩
  have hr2 : RG k (A.deeper (envOfC qual (defScope st) s.heap.objs.size f cdv)) := ⟨hr.room.deeper _, hr.gd⟩
  obtain ⟨t, ht, hq⟩ := body cdv A outer s H vs Q E hr2 hsp
  have I : Inv (cxOf CX0 P w K mg base N qual (defScope st) f cdv A outer s H E) [] (start N vs) H s1 :=
    inv_start S hr.room.hd e0 nvs r x
  refine wpAny_mono (ht.nox.run [] s1 (start N vs) H _ I hq) (fun fl s' hs => ?_) fun _ _ z => z
  match fl, hs with
  | .ret u, ⟨v, σ', H', J, rv, q⟩ => exact ⟨v, H', J.os, J.bare, J.base, J.hok, rv, q⟩
  | .next, ⟨σ', H', J, q⟩ => exact ⟨V.non, H', J.os, J.bare, J.base, J.hok, rfl, q⟩
  | .brk, ⟨_, _, _, q⟩ => exact q.elim
  | .cont, ⟨_, _, _, q⟩ => exact q.elim
end

section
variable {X : Cx} {CX : CXT} {k : Nat} {f : Addr} {fd : FuncData} {ps : List Str} {sp : Sp} {dvs : List V}
  {ds : List Value} {E : XK} {x : Str} {p pos : Pos} {e : Expr} {es : List Expr} {t : TA}
/-- f(e, ..) of such a def -/
theorem callG (F : FnG X.prog X.w X.K X.mg X.base CX k f fd ps sp) (hr : RG k X.A) (hg : Gl X x)
    (hm : X.mg x = some (.ref f)) (hk : PySem.W.keepIn X.K (.ref f) = true) (hb : Binds X.K fd ps ds)
    (hd : Vals dvs ds) (hx : Passes CX X E) (ha : PA X (e :: es) t)
    (hdb : (x == ("__debug__" : Str)) = false := by decide)
    (he : starEach (e :: es) X.env = (false, eval e X.env) :: starEach es X.env := by rfl)
    (hpl : (backTo pos (starEach es X.env)).any (·.1) = false := by rfl) :
    PE X (.Call (.Name x p) (e :: es) [] pos) (tCall sp dvs E t) := by
  constructor
  intro pins s σ H Q I h
  refine wpAny_Call_Name_kw (ld_glob I hg hm ?_ hdb)
  refine PySem.W.callWith_K (h₀ := X.base) I.ok.mod.kin hk ?_ he hpl
  refine thn (ha.run pos pins s σ H _ I h) fun us s1 ⟨vs, H1, I1, r, q⟩ => ⟨I1.kIn, ?_⟩
  have r2 : Vals (vs ++ dvs) (us ++ ds) := r.append hd
  have n2 : (us ++ ds).length = ps.length := r2.length.symm.trans (F.len _ _ _ _ q)
  have run := F.run X.A X.stack s1 H1 ⟨us, []⟩ (us ++ ds) (vs ++ dvs) Q E hr I1.env0 (hb s1 us I1.kIn n2) r2 q
  refine wpAny_call (codeAny_mono run fun res s' hq => ?_)
  match res, hq with
  | .error ee, hq => exact hx pins σ H1 s1 ee s' I1 hq
  | .ok (.ret u), hq => exact I1.after hq
  | .ok .next, hq => exact hq.elim
  | .ok .brk, hq => exact hq.elim
  | .ok .cont, hq => exact hq.elim
end

/-! ### repr of data -/
section
variable {X : Cx}
/-- what repr asks of a datum that stands at v -/
def rRepr (K : PySem.W.Frag) : List V → Hp → VK → Prop := fun xs H Q => ∃ v d, xs = [v] ∧ Dp K H v d ∧
  d.showable = true ∧ d.hasDict = false ∧ d.depth ≤ 60 ∧ d.shown.length ≤ sizeLine ∧ Q (.str d.shown) H
theorem call_reprD (hg : X.A.guards = some []) (hu : X.A.units + 64 < cLine) : CallR X (.builtin "repr") (rRepr X.K) := by
  intro pins s σ H xs us Q I r h
  obtain ⟨v, d, rfl, hd, hs, hn, hdp, hl, q⟩ := h
  obtain ⟨u, rfl, ru⟩ := vals1 r
  cases hd with
  | non => cases ru; exact PySem.P.repr_of_none ⟨.str _, H, I.tok _, ⟨_, rfl⟩, q⟩
  | bl b => cases ru; exact PySem.P.repr_of_bool ⟨.str _, H, I.tok _, ⟨_, rfl⟩, q⟩
  | int i => obtain ⟨t, rfl⟩ := ru; exact PySem.P.repr_of_int (by simpa [PyData.showable] using hs) ⟨.str _, H, I.tok _, ⟨_, rfl⟩, q⟩
  | str x => obtain ⟨t, rfl⟩ := ru; exact PySem.P.repr_of_str ⟨.str _, H, I.tok _, ⟨_, rfl⟩, q⟩ (by simpa [PyData.shown] using hl)
  | lst h1 h2 =>
    cases ru
    obtain ⟨as, rd⟩ := Dp.reads I _ _ _ (Dp.lst h1 h2) rfl
    exact repr_of_reads' rd hs (fun z => by rw [hn] at z; cases z) hg (by omega) (fun _ _ z => z) (fun h' u tk hk => ⟨.str _, H, I.kept hk, ⟨_, rfl⟩, q⟩) hl
  | tup h1 h2 =>
    cases ru
    obtain ⟨as, rd⟩ := Dp.reads I _ _ _ (Dp.tup h1 h2) rfl
    exact repr_of_reads' rd hs (fun z => by rw [hn] at z; cases z) hg (by omega) (fun _ _ z => z) (fun h' u tk hk => ⟨.str _, H, I.kept hk, ⟨_, rfl⟩, q⟩) hl
end
/-! ### the end: the law's call, from a promise of this kind -/
theorem endG {l : PySem.W.OpenLaw} {n k : Nat} {q : Program} {loose : List Str} {XP : (Str → Option Value) → Heap → Prop}
    {YP : World → Heap → Prop} {d : DefRec} {K : Params → PySem.W.Frag} {sp : World → Sp} {x : Str}
    (hn : l.most = some n) (hn2 : n ≤ sizeLine) (hdf : d.params.defaults = []) (hr : RG k callerA)
    (hY : ∀ (w : World) (h : Heap), YP w h → (K w.params).In h)
    (F : ∀ (w : World) (mg : Str → Option Value) (fa : Addr) (h : Heap), (K w.params).In h → h.Ns mainGlobals mg →
      mg d.name = some (.ref fa) → ∃ fd : FuncData, (∀ (s : Shared) (u : Value), BindsTo s fd ⟨[u], []⟩ [(x, u)]) ∧
        ∀ base : Heap, (K w.params).In base → base.Ns mainGlobals mg → FnG l.prog w (K w.params) mg base CX0 k fa fd [x] (sp w))
    (hsp : ∀ (w : World) (H : Hp) (a : Addr) (ns : List Int), ns.length ≤ n → (∀ z ∈ ns, Builtin.Int.intBits z ≤ 1048576) →
      Only H → SqL (K w.params) H a (ns.map V.int) → sp w [.ref a] H (fun v _ => v = .bl true) E0) :
    PySem.W.WalkO q loose XP YP l.row.toRowW d [] (fun f vs => PySem.call f vs) := by
  refine Att.attach_callB hn hdf fun w s₀ s1 mg mb fa o pm cd doc a us ns G Y ho hd hcd hmg obj hints nlen bits gens => ?_
  have inK : (K w.params).In s1.heap := hY w _ Y
  obtain ⟨fd, bind, hF⟩ := F w mg fa _ inK G.T.g hmg
  have rv := vals_ints hints
  have nv : us.length = ns.length := hints.length
  have go : ∀ H : Hp, Only H → SqL (K w.params) H a (ns.map V.int) → HOk l.prog w H s1.heap → (∀ b, H b ≠ none → b = a) →
      (H a ≠ none → (K w.params).lookup a = none) → codeAny (model l.prog w) callerA (.call (.ref fa) ⟨[.ref a], []⟩)
        (fun r s' => r = .ok (.ret (.bool true)) ∧ OldK s1.heap s'.heap ∧ s'.os = s1.os ∧ AllBare s'.gens) s1 := by
    intro H only hS hok atA offK
    have none_or : ∀ b, H b = none ∨ b = a := fun b => by
      cases z : H b with
      | none => exact .inl rfl
      | some u => exact .inr (atA b (by rw [z]; intro y; cases y))
    have left : ∀ {b : Addr} {o : Obj}, s1.heap.get? b = some o → H b = none → (hidT s1.heap H).get? b = some o :=
      fun e z => hidT_get e z
    have notA : ∀ {b : Addr} {o : Obj} {es : Array DictEntry} {ep : Nat},
        s1.heap.get? b = some o → o.data = .dict es ep → H b = none := fun {b o es ep} e z => by
      rcases none_or b with y | rfl
      · exact y
      · rw [obj] at e
        cases e
        cases (show Data.seq us.toArray _ = Data.dict es ep from z)
    have spaces : ∀ {b : Addr} {m : Str → Option Value}, s1.heap.Ns b m → (hidT s1.heap H).Ns b m :=
      fun {b m} ⟨o, es, ep, e, z, r⟩ => ⟨o, es, ep, left e (notA e z), z, r⟩
    have inB : (K w.params).In (hidT s1.heap H) := fun b o e => left (inK b o e) (by
      rcases none_or b with y | rfl
      · exact y
      · cases z : H b with
        | none => rfl
        | some u =>
          rw [offK (by rw [z]; intro y; cases y)] at e
          cases e)
    have md : Mod (K w.params) mg (hidT s1.heap H) := by
      obtain ⟨mc, c1, c2⟩ := G.T.nolimit
      exact ⟨inB, spaces G.T.g, ⟨mb, spaces G.T.b, G.T.builtins⟩, ⟨mc, spaces c1, c2⟩⟩
    have e0 : Env0 l.prog w (K w.params) mg (hidT s1.heap H) callerA [] s1 H :=
      ⟨rfl, md, fun b o e => of_hidT e, Nat.le_of_eq (hidT_size _ _), trivial, fun b z => (nomatch z), hok, .of_eq gens⟩
    have run := (hF _ inB (spaces G.T.g)).run callerA [] s1 H ⟨[.ref a], []⟩ [.ref a] [.ref a] _ _ hr e0
      (bind s1 (.ref a)) (.cons rfl .nil) (hsp w H a ns nlen bits only hS)
    refine codeAny_mono run fun res s' h => ?_
    match res, h with
    | .error e, h => exact h.elim
    | .ok .next, h => exact h.elim
    | .ok .brk, h => exact h.elim
    | .ok .cont, h => exact h.elim
    | .ok (.ret u), ⟨v, H', os, bare, un, hok', r', q⟩ =>
      have q' : v = .bl true := q
      subst q'
      have r2 : u = Value.bool true := r'
      subst r2
      refine ⟨rfl, OldK.of_keep fun b o e => ?_, os, bare⟩
      cases z : H b with
      | none => exact un.keep b o e z (fun y => (nomatch y)) (fun y => (nomatch y))
      | some u =>
        rcases only b with y | ⟨ob, xs, y⟩
        · rw [z] at y
          cases y
        · obtain ⟨e1, _⟩ := hok b _ y
          obtain ⟨e2, _⟩ := hok' b _ (un.frzs b ob _ y)
          rw [e] at e1
          cases e1
          exact e2
  have small : ns.length ≤ sizeLine := Nat.le_trans nlen hn2
  cases hk : (K w.params).lookup a with
  | some o =>
    have e := inK a o hk
    rw [obj] at e
    cases e
    refine go (fun _ => none) (fun _ => .inl rfl) (.inr ⟨_, us.toArray, _, hk, rfl, rfl, rfl, ?_, by simpa using rv⟩)
      (fun b u z => nomatch z) (fun b z => absurd rfl z) fun z => absurd rfl z
    rw [List.size_toArray, nv]
    exact small
  | none =>
    let ob : Obj := { cls := .type "list", data := .seq us.toArray }
    have at_ : ∀ b, (fun c => if c = a then some (HO.frz ob (.lst (ns.map V.int))) else none : Hp) b ≠ none → b = a := fun b z => by
      by_cases y : b = a
      · exact y
      · exact absurd (if_neg y) z
    refine go (fun c => if c = a then some (.frz ob (.lst (ns.map V.int))) else none) (fun b => ?_) (.inl (.inr ⟨ob, if_pos rfl⟩))
      (fun b u z => ?_) at_ fun _ => hk
    · by_cases y : b = a
      · exact .inr ⟨_, _, if_pos y⟩
      · exact .inl (if_neg y)
    · obtain rfl := at_ b (by rw [z]; intro y; cases y)
      have z' := (if_pos rfl).symm.trans z
      cases z'
      exact ⟨obj, by rw [List.length_map]; exact small, us, _, rv, obj⟩
end Cl

namespace Cl
open PySem PySem.Spec PyProof.Rows L2
theorem same_new {H : Hp} {p : Addr} {o : HO} (h : H p = none) : Same H (upd H p o) := fun b x e => by
  rw [upd_ne (ne_of_none e h)]
  exact e
/-- what is handed on where a new object stands at its place -/
def New (H : Hp) (o : HO) (Q : VK) : Prop := ∀ p H', H p = none → Same H H' → H' p = some o → Q (.ref p) H'
theorem New.go {H : Hp} {o : HO} {Q : VK} (h : New H o Q) : ∀ p, H p = none → Q (.ref p) (upd H p o) :=
  fun p n => h p _ n (same_new n) upd_same
section
variable {X : Cx} {e : Expr} {te : TE}
theorem valsRev : ∀ {xs : List V} {us : List Value}, Vals xs us → Vals xs.reverse us.reverse
  | _, _, .nil => .nil
  | _, _, .cons r t => by
    rw [List.reverse_cons, List.reverse_cons]
    exact (valsRev t).append (.cons r .nil)
/-- xs[::-1] of a list -/
def tRevL (K : PySem.W.Frag) (te : TE) : TE := fun σ H Q => te σ H fun x H1 => ∃ a xs, x = .ref a ∧ SqL K H1 a xs ∧ New H1 (.lst xs.reverse) Q
theorem pe_revL {p0 p1 p2 pos : Pos} {j : Nat} (he : PE X e te) :
    PE X (.Subscript e (.Slice none none (some (.UnaryOp .USub (.Constant (.int 1) j p0) p1)) p2) pos) (tRevL X.K te) := by
  constructor
  intro pins s σ H Q I h
  refine Subscript_ (thn (he.run pins s σ H _ I h) fun v s1 ⟨x, H1, I1, r1, a, xs, hx, hl, q⟩ => ?_)
  subst hx
  cases r1
  refine wpAny_Slice ?_
  rw [evalPart_none]
  refine wpAny_pure ?_
  refine wpAny_pure ?_
  rw [evalPart_some]
  have hneg : PE X (.UnaryOp .USub (.Constant (.int 1) j p0) p1) _ := pe_un un_neg pe_int
  refine thn (hneg.run pins s1 σ H1 (fun y H2 => y = .int (-1) ∧ H2 = H1) I1 ⟨1, rfl, rfl, rfl⟩) fun u s2 ⟨y, H2, I2, ry, hy, hH⟩ => ?_
  subst hy hH
  obtain ⟨t, rfl⟩ := ry
  obtain ⟨its, r, ht, hz⟩ := I2.list hl
  have I4 : Inv X pins σ H2 { s2 with heap := s2.heap.push { cls := .type "slice", data := .fields #[.none, .none, .int (-1) t] } } :=
    I2.kept (t' := s2.toks) fun b ob q => Heap.get?_push_of_some _ q
  obtain ⟨its, r, ht, hz⟩ := I4.list hl
  have hlen := r.length
  refine tail_any ht.isList.typeIs slot_list_getitem.lookup ?_ (by with_unfolding_all rfl)
  refine wpAny_getItem_list_slice ht.isList (Heap.IsSliceOf.new ..) .none .none (.int (-1) t) (by decide) ?_ (by rw [List.size_toArray] <;> omega)
  rw [PySem.W.krv_pick]
  refine ⟨.ref _, _, I4.laid (t' := s2.toks) (o := .lst xs.reverse) (fun b ob q => Heap.get?_push_of_some _ q) (Nat.le_refl _) ?_, rfl, q.go _ (I4.hok.fresh (Nat.le_refl _))⟩
  exact ⟨by rw [List.length_reverse]; exact hz, _, 0, valsRev r, Heap.get?_push_size _ rfl⟩
end
end Cl

namespace Cl
open PySem PySem.Spec PyProof.Rows L2

/-! ### a def of the text, with its promise -/
structure Def (P : Program) (w : World) (K : PySem.W.Frag) (mg : Str → Option Value) (base : Heap)
    (k : Nat) (x : Str) (ps : List Str) (sp : Sp) : Prop where
  ex : ∃ f fd, FnG P w K mg base CX0 k f fd ps sp ∧ mg x = some (.ref f) ∧
    PySem.W.keepIn K (.ref f) = true ∧ Binds K fd ps []
section
variable {X : Cx} {k : Nat} {ps : List Str} {sp : Sp} {x : Str} {p pos : Pos} {e : Expr} {es : List Expr} {t : TA}
theorem callD (D : Def X.prog X.w X.K X.mg X.base k x ps sp) (hr : RG k X.A) (ha : PA X (e :: es) t)
    (hg : Gl X x := by rfl) (hdb : (x == ("__debug__" : Str)) = false := by decide)
    (he : starEach (e :: es) X.env = (false, eval e X.env) :: starEach es X.env := by rfl)
    (hpl : (backTo pos (starEach es X.env)).any (·.1) = false := by rfl) :
    PE X (.Call (.Name x p) (e :: es) [] pos) (tCall sp [] E0 t) := by
  obtain ⟨f, fd, F, hm, hk, hb⟩ := D.ex
  exact callG F hr hg hm hk hb .nil pass0 ha hdb he hpl
end
section
variable {P : Program} {w : World} {K : PySem.W.Frag} {mg : Str → Option Value} {base : Heap}
theorem Def.mk1 {k : Nat} {x qual : Str} {st : Stmt} {f : Addr} {fd : FuncData} {ps : List Str} {sp : Sp}
    (F : Fun K x qual st f fd) (G : FnG P w K mg base CX0 k f fd ps sp) (hm : mg x = some (.ref f))
    (b : Binds K fd ps []) : Def P w K mg base k x ps sp := ⟨f, fd, G, hm, F.kp, b⟩
end

/-! ### heaps -/
theorem Same.rfl' {H : Hp} : Same H H := fun _ _ e => e
/-! ### rules that hand on a heap in which a new object stands -/
section
variable {X : Cx} {es : List Expr} {e : Expr} {t : TA} {te : TE} {pos : Pos}
def tTupN (t : TA) : TE := fun σ H Q => t σ H fun xs H1 => xs.length ≤ sizeLine ∧ New H1 (.tup xs) Q
def tLstN (t : TA) : TE := fun σ H Q => t σ H fun xs H1 => xs.length ≤ sizeLine ∧ New H1 (.lst xs) Q
theorem tupN {j} (h : PA X es t) : PE X (.Tuple es j pos) (tTupN t) := by
  constructor
  intro pins s σ H Q I hq
  refine wpAny_Tuple_spliced ?_
  refine thn (h.run pos pins s σ H _ I hq) fun us s1 ⟨xs, H1, I1, r, z, q⟩ => ⟨by rw [← r.length]; exact z, ?_⟩
  refine ⟨.ref s1.heap.objs.size, _, I1.laid (t' := s1.toks) (o := .tup xs) (fun b u e => Heap.get?_push_of_some _ e) (Nat.le_refl _) ?_, rfl,
    q.go _ (I1.hok.fresh (Nat.le_refl _))⟩
  exact ⟨z, us, r, ⟨_, Heap.get?_push_size _ rfl, rfl, _, rfl⟩⟩
theorem lstN (h : PA X es t) : PE X (.List es pos) (tLstN t) := by
  constructor
  intro pins s σ H Q I hq
  refine wpAny_List_spliced ?_
  refine thn (h.run pos pins s σ H _ I hq) fun us s1 ⟨xs, H1, I1, r, z, q⟩ => ⟨by rw [← r.length]; exact z, ?_⟩
  refine ⟨.ref s1.heap.objs.size, _, I1.laid (t' := s1.toks) (o := .lst xs) (fun b u e => Heap.get?_push_of_some _ e) (Nat.le_refl _) ?_, rfl,
    q.go _ (I1.hok.fresh (Nat.le_refl _))⟩
  exact ⟨z, us, 0, r, Heap.get?_push_size _ rfl⟩
def rSlLN (K : PySem.W.Frag) : V → Option Int → Option Int → Hp → VK → Prop := fun x lo hi H Q =>
  ∃ a xs, x = .ref a ∧ SqL K H a xs ∧ New H (.lst (cutV xs lo hi)) Q
theorem sl_listN : SlR X (rSlLN X.K) := fun pins s σ H x v vl vu lo hi sl Q I rx hs pl pu ⟨a, xs, h1, h2, q⟩ =>
  sl_list pins s σ H x v vl vu lo hi sl Q I rx hs pl pu ⟨a, xs, h1, h2, q.go⟩
def rSlTN (K : PySem.W.Frag) : V → Option Int → Option Int → Hp → VK → Prop := fun x lo hi H Q =>
  ∃ a xs, x = .ref a ∧ SqT K H a xs ∧ ¬ (HT.sIx xs.length 0 lo = 0 ∧ HT.sIx xs.length xs.length hi = xs.length) ∧ New H (.tup (cutV xs lo hi)) Q
theorem sl_tupN : SlR X (rSlTN X.K) := fun pins s σ H x v vl vu lo hi sl Q I rx hs pl pu ⟨a, xs, h1, h2, h3, q⟩ =>
  sl_tup pins s σ H x v vl vu lo hi sl Q I rx hs pl pu ⟨a, xs, h1, h2, h3, q.go⟩
theorem call_list_ofN : CallR X (.type "list") (fun xs H Q => ∃ p ys, xs = [.ref p] ∧ (SqL X.K H p ys ∨ SqT X.K H p ys) ∧ New H (.lst ys) Q) :=
  fun pins s σ H xs us Q I r ⟨p, ys, h1, h2, q⟩ => call_list_of pins s σ H xs us Q I r ⟨p, ys, h1, h2, q.go⟩
end
/-! ### cuts: what stands between two statements, or behind a part, by a word of one's own -/
section
variable {X : Cx} {st : Stmt} {rest : List Stmt} {t u : TS} {e : Expr} {te : TE} {tt : TT}
def tCut (t u : TS) : TS := fun D σ H => ∃ M : L2.St → Hp → Prop, t { D with nx := M } σ H ∧ ∀ σ' H', M σ' H' → u D σ' H'
theorem cutS (h1 : PS X st t) (h2 : PSs X rest u) : PSs X (st :: rest) (tCut t u) := by
  constructor
  rintro pins s σ H D I ⟨M, h, k⟩
  refine wpAny_execs_cons (thn (h1.run pins s σ H _ I h) fun f s1 q => ?_)
  match f, q with
  | .next, ⟨σ', H', I', q⟩ => exact h2.run pins s1 σ' H' D I' (k _ _ q)
  | .ret v, q => exact q
  | .brk, q => exact q
  | .cont, q => exact q
def tMid (te : TE) : TE := fun σ H Q => ∃ M : VK, te σ H M ∧ ∀ v H', M v H' → Q v H'
theorem cutE (h : PE X e te) : PE X e (tMid te) := ⟨fun pins s σ H Q I ⟨M, h1, k⟩ =>
  thn (h.run pins s σ H M I h1) fun v s1 ⟨x, H1, I1, r1, q1⟩ => ⟨x, H1, I1, r1, k _ _ q1⟩⟩
def tMidT (tt : TT) : TT := fun σ H Q => ∃ M : Bool → Hp → Prop, tt σ H M ∧ ∀ b H', M b H' → Q b H'
theorem cutT (h : PT X e tt) : PT X e (tMidT tt) := ⟨fun pins s σ H Q I ⟨M, h1, k⟩ =>
  thn (h.run pins s σ H M I h1) fun b s1 ⟨H1, I1, q1⟩ => ⟨H1, I1, k _ _ q1⟩⟩
end
def lcL {K : PySem.W.Frag} {a : Addr} {xs : List V} {g : TG} {tt : TT} {te : TE} {vs : List Nat} {σ : L2.St} {H1 : Hp} {D : Addr} {Qd : Hp → Prop}
    (Pv : Nat → Hp → Prop) (hD : H1 D = none) (h0 : ∀ H', Same H1 H' → H' D = some (.lst []) → Pv 0 H') (hl : ∀ i H, i ≤ xs.length → Pv i H → SqL K H a xs)
    (hs : ∀ i x H, xs[i]? = some x → Pv i H → g x (wipe σ vs) H fun σ2 H2 => wipe σ2 vs = wipe σ vs ∧ tt σ2 H2 fun b H3 =>
      if b = true then te σ2 H3 fun y H4 => ∃ acc, H4 D = some (.lst acc) ∧ acc.length < sizeLine ∧ Pv (i + 1) (upd H4 D (.lst (acc ++ [y]))) else Pv (i + 1) H3)
    (hd : ∀ H, Pv xs.length H → Qd H) :=
  lc_list (K := K) (a := a) (xs := xs) (g := g) (tt := tt) (te := te) (vs := vs) (σ := σ) (H1 := H1) (D := D) (Qd := Qd) Pv (h0 _ (same_new hD) upd_same) hl hs hd
def lcT {K : PySem.W.Frag} {a : Addr} {xs : List V} {g : TG} {tt : TT} {te : TE} {vs : List Nat} {σ : L2.St} {H1 : Hp} {D : Addr} {Qd : Hp → Prop}
    (Pv : Nat → Hp → Prop) (hD : H1 D = none) (h0 : ∀ H', Same H1 H' → H' D = some (.lst []) → Pv 0 H') (hl : ∀ i H, i ≤ xs.length → Pv i H → SqT K H a xs)
    (hs : ∀ i x H, xs[i]? = some x → Pv i H → g x (wipe σ vs) H fun σ2 H2 => wipe σ2 vs = wipe σ vs ∧ tt σ2 H2 fun b H3 =>
      if b = true then te σ2 H3 fun y H4 => ∃ acc, H4 D = some (.lst acc) ∧ acc.length < sizeLine ∧ Pv (i + 1) (upd H4 D (.lst (acc ++ [y]))) else Pv (i + 1) H3)
    (hd : ∀ H, Pv xs.length H → Qd H) :=
  lc_tup (K := K) (a := a) (xs := xs) (g := g) (tt := tt) (te := te) (vs := vs) (σ := σ) (H1 := H1) (D := D) (Qd := Qd) Pv (h0 _ (same_new hD) upd_same) hl hs hd
/-- the heap without the deck -/
def hide (d l : Addr) (H : Hp) : Hp := fun b => if b = d ∨ b = l then none else H b
theorem hide_at {d l b : Addr} {H : Hp} {o : HO} (h : hide d l H b = some o) : b ≠ d ∧ b ≠ l ∧ H b = some o := by
  unfold hide at h
  split at h
  · cases h
  · rename_i n
    exact ⟨fun e => n (.inl e), fun e => n (.inr e), h⟩
theorem hide_ne {d l b : Addr} {H : Hp} (h1 : b ≠ d) (h2 : b ≠ l) : hide d l H b = H b := by
  unfold hide
  rw [if_neg]
  rintro (e | e)
  · exact h1 e
  · exact h2 e
/-- the deck stands: a list of the script's rest, its number, its count -/
structure Deck (H : Hp) (d l : Addr) : Prop where
  ne : d ≠ l
  ex : ∃ (ns : List Int) (s c : Int), H d = some (.lst [.ref l, .int s, .int c]) ∧ H l = some (.lst (ns.map V.int)) ∧ ns.length ≤ 63
/-- the deck still stands, and all else that stood stands -/
structure Step (d l : Addr) (H H' : Hp) : Prop where
  deck : Deck H' d l
  same : Same (hide d l H) (hide d l H')
section
variable {d l p a : Addr} {H H' H2 : Hp} {o : HO} {K : PySem.W.Frag} {xs : List V}
theorem Deck.nd (D : Deck H d l) (h : H p = none) : p ≠ d ∧ p ≠ l := by
  obtain ⟨ns, s, c, h1, h2, _⟩ := D.ex
  exact ⟨(ne_of_none h1 h).symm, (ne_of_none h2 h).symm⟩
theorem Step.refl (D : Deck H d l) : Step d l H H := ⟨D, fun _ _ e => e⟩
theorem Step.trans (A : Step d l H H') (B : Step d l H' H2) : Step d l H H2 := ⟨B.deck, fun b x e => B.same b x (A.same b x e)⟩
theorem Step.of (D : Deck H d l) (S : Same H H') : Step d l H H' := by
  obtain ⟨ns, s, c, h1, h2, h3⟩ := D.ex
  refine ⟨⟨D.ne, ns, s, c, S _ _ h1, S _ _ h2, h3⟩, fun b x e => ?_⟩
  obtain ⟨e1, e2, e3⟩ := hide_at e
  rw [hide_ne e1 e2]
  exact S _ _ e3
theorem Step.new (D : Deck H d l) (h : H p = none) : Step d l H (upd H p o) := by
  obtain ⟨n1, n2⟩ := D.nd h
  obtain ⟨ns, s, c, h1, h2, h3⟩ := D.ex
  refine ⟨⟨D.ne, ns, s, c, ?_, ?_, h3⟩, fun b x e => ?_⟩
  · rw [upd_ne n1.symm]; exact h1
  · rw [upd_ne n2.symm]; exact h2
  · obtain ⟨e1, e2, e3⟩ := hide_at e
    rw [hide_ne e1 e2, upd_ne (ne_of_none e3 h)]
    exact e3
/-- a new object ahead of a step is there behind it -/
theorem Step.at (S : Step d l H H') (h1 : p ≠ d) (h2 : p ≠ l) (h : H p = some o) : H' p = some o := by
  have e := S.same p o (by rw [hide_ne h1 h2]; exact h)
  exact (hide_at e).2.2
theorem Step.tupH (S : Step d l H H') (D : Deck H d l) (h : H p = some (.tup xs)) : H' p = some (.tup xs) := by
  obtain ⟨ns, s, c, h1, h2, h3⟩ := D.ex
  exact S.at (ne_of h h1 (by intro z; cases z)) (ne_of h h2 (by intro z; cases z)) h
end
theorem dropLast_map (ns : List Int) : (ns.map V.int).dropLast = ns.dropLast.map V.int := by
  rw [List.map_dropLast]

/-! ### promises of the deck's defs -/
def spDeck (K : PySem.W.Frag) : Sp := fun vs H Q _ => ∃ (a : Addr) (ns : List Int), vs = [.ref a] ∧ SqL K H a (ns.map V.int) ∧ ns.length ≤ 63 ∧
  ∀ d l H', Same H H' → Deck H' d l → Q (.ref d) H'
def spDraw : Sp := fun vs H Q _ => ∃ (d l : Addr) (m : Int), vs = [.ref d, .int m] ∧ 0 < m ∧ m < 2 ^ 64 ∧ Deck H d l ∧
  ∀ v H', 0 ≤ v → v < m → Step d l H H' → Q (.int v) H'
theorem mulc {a b : Int} (h : -(2 ^ 64) < a ∧ a < 2 ^ 64) : CMul a b := .inl h
theorem mulr {a b : Int} (h : -(2 ^ 64) < b ∧ b < 2 ^ 64) : CMul a b := .inr h
theorem modlt {a m : Int} (h : 0 < m) (h2 : m ≤ 2 ^ 64) : -(2 ^ 64) < a % m ∧ a % m < 2 ^ 64 := by
  have := Int.emod_nonneg a (show m ≠ 0 by omega)
  have := Int.emod_lt_of_pos a h
  omega
theorem shapedInts (ns : List Int) : SeqAt.shaped (.list (ns.map PyData.int)) = true := by
  have h1 : ∀ ns : List Int, PyData.canLayAll0 (ns.map PyData.int) = true := by
    intro ns
    induction ns with
    | nil => rfl
    | cons n r ih => simp [PyData.canLayAll0, PyData.canLay0, ih]
  have h2 : ∀ ns : List Int, PyData.depthAll (ns.map PyData.int) = 0 := by
    intro ns
    induction ns with
    | nil => rfl
    | cons n r ih => simp [PyData.depthAll, PyData.depth, ih]
  simp [SeqAt.shaped, PyData.canLay0, PyData.depth, h1, h2]
theorem dpInts {K : PySem.W.Frag} {H : Hp} : ∀ ns : List Int, DpAll K H (ns.map V.int) (ns.map PyData.int)
  | [] => .nil
  | n :: r => .cons (.int n) (dpInts r)
theorem eqvNil (ns : List Int) : PyData.eqv (.list (ns.map PyData.int)) (.list []) = ns.isEmpty := by
  cases ns <;> simp [PyData.eqv, PyData.eqvAll]

/-! ### data whose repr is short -/
structure Fine (d : PyData) : Prop where
  lv : d.leavesShort 200 = true
  sh : d.showable = true
  nd : d.hasDict = false
  dp : d.depth ≤ 60
  bk : d.bulk ≤ 80000
def okI (i : Int) : Prop := i.natAbs < 2 ^ 190
theorem okI.log {i : Int} (h : okI i) : i.natAbs.log2 < 190 := PySem.Flt.log2_lt_of (by decide) h
theorem okI.len {i : Int} (h : okI i) : (PyData.shown (.int i)).length ≤ 200 := by
  have e := int_text_length_le (k := 190) (by decide) h.log
  show (Str.ofString (toString i)).length ≤ 200
  rw [PySem.ofString_length]
  omega
theorem okI.of {i : Int} (h1 : -(2 ^ 189) < i) (h2 : i < 2 ^ 189) : okI i := by
  unfold okI
  omega
def rReprF (K : PySem.W.Frag) : List V → Hp → VK → Prop := fun xs H Q => ∃ v d, xs = [v] ∧ Dp K H v d ∧ Fine d ∧ Q (.str d.shown) H
theorem call_repr {X : Cx} (hg : X.A.guards = some []) (hu : X.A.units + 64 < cLine) : CallR X (.builtin "repr") (rReprF X.K) :=
  fun pins s σ H xs us Q I r ⟨v, d, h1, h2, f, q⟩ => call_reprD hg hu pins s σ H xs us Q I r ⟨v, d, h1, h2, f.sh, f.nd, f.dp, by
    have e := PyData.shown_le_bulk 200 (by decide) d f.lv
    have e2 := f.bk
    have e3 : sizeLine = 16777216 := by decide
    omega, q⟩
theorem fineInts2 {i j : Int} (h1 : okI i) (h2 : okI j) : Fine (.tuple [.int i, .int j]) := by
  have a1 := h1.len
  have a2 := h2.len
  have b1 : i.natAbs.log2 < 1920 := by have := h1.log; omega
  have b2 : j.natAbs.log2 < 1920 := by have := h2.log; omega
  constructor
  · simp [PyData.leavesShort, PyData.leavesShortAll, a1, a2]
  · simp [PyData.showable, PyData.showableAll, b1, b2]
  · rfl
  · simp [PyData.depth, PyData.depthAll]
  · simp [PyData.bulk, PyData.bulkAll]
theorem fineBool (b : Bool) : Fine (.bool b) := by constructor <;> first | rfl | (cases b <;> decide)
end Cl

namespace Cl
open PySem PySem.Spec PyProof.Rows L2
/-! ### the nearest whole number -/
def nr (n d : Int) : Int := (2 * n + d) / (2 * d)
theorem nr_law {n g : Int} (h : 0 < g) : nr n g = if 2 * n < (2 * (n / g) + 1) * g then n / g else n / g + 1 := by
  have e1 := Int.mul_ediv_add_emod n g
  have e2 := Int.emod_nonneg n (show g ≠ 0 by omega)
  have e3 := Int.emod_lt_of_pos n h
  generalize n / g = k at *
  generalize n % g = r at *
  subst e1
  unfold nr
  have c1 : (2 * k + 1) * g = 2 * (g * k) + g := by rw [Int.add_mul, Int.mul_assoc, Int.mul_comm k g]; omega
  have c2 : 2 * (g * k + r) + g = (2 * r + g) + (2 * g) * k := by rw [Int.mul_assoc 2 g k]; omega
  rw [c1, c2, Int.add_mul_ediv_left _ _ (show 2 * g ≠ 0 by omega)]
  split
  · rw [Int.ediv_eq_zero_of_lt (by omega) (by omega)]; omega
  · have c3 : 2 * r + g = (2 * r - g) + (2 * g) * 1 := by omega
    rw [c3, Int.add_mul_ediv_left _ _ (show 2 * g ≠ 0 by omega), Int.ediv_eq_zero_of_lt (by omega) (by omega)]; omega
theorem nr_move {n d g : Int} (h : 0 < g) : nr (n + d * g) g = nr n g + d := by
  unfold nr
  have c : 2 * (n + d * g) + g = (2 * n + g) + (2 * g) * d := by
    rw [Int.mul_add, Int.mul_assoc 2 g d, Int.mul_comm d g]; omega
  rw [c, Int.add_mul_ediv_left _ _ (show 2 * g ≠ 0 by omega)]
theorem nr_times {n g t : Int} (ht : 0 < t) : nr (n * t) (g * t) = nr n g := by
  unfold nr
  have c1 : 2 * (n * t) + g * t = (2 * n + g) * t := by rw [Int.add_mul, Int.mul_assoc]
  have c2 : 2 * (g * t) = (2 * g) * t := by rw [Int.mul_assoc]
  rw [c1, c2, Int.mul_ediv_mul_of_pos_left _ _ ht]
theorem nr_ok {n g B : Int} (h : 0 < g) (h1 : -B < n) (h2 : n < B) (hB : 0 < B) : -(B + 1) ≤ nr n g ∧ nr n g ≤ B + 1 := by
  unfold nr
  have hg : 0 < 2 * g := by omega
  constructor
  · refine Int.le_ediv_of_mul_le hg ?_
    have : B * 1 ≤ B * g := Int.mul_le_mul_of_nonneg_left (by omega) (by omega)
    have e : -(B + 1) * (2 * g) = -(2 * (B * g)) - 2 * g := by rw [Int.neg_mul, Int.add_mul, Int.mul_left_comm B 2 g]; omega
    rw [e]; omega
  · refine Int.ediv_le_of_le_mul hg ?_
    have : B * 1 ≤ B * g := Int.mul_le_mul_of_nonneg_left (by omega) (by omega)
    have e : (B + 1) * (2 * g) = 2 * (B * g) + 2 * g := by rw [Int.add_mul, Int.mul_left_comm B 2 g]; omega
    rw [e]; omega
def spNear : Sp := fun vs H Q _ => ∃ n d : Int, vs = [.int n, .int d] ∧ 0 < d ∧ d < 2 ^ 60 ∧ Q (.int (nr n d)) H
def spCorner (K : PySem.W.Frag) : Sp := fun vs H Q _ => ∃ (g : Int) (a : Addr) (x y : Int), vs = [.int g, .ref a] ∧ SqT K H a [.int x, .int y] ∧ 0 < g ∧ g < 2 ^ 60 ∧
  New H (.tup [.int (nr x g), .int (nr y g)]) Q

def spLaw (K : PySem.W.Frag) : Sp := fun vs H Q _ => ∃ (a : Addr) (ns : List Int), vs = [.ref a] ∧ SqL K H a (ns.map V.int) ∧ ns.length ≤ 63 ∧ ∀ H', Q (.bl true) H'
section
variable {X : Cx}
def CDivX (_ j : Int) : Prop := j ≠ 0 ∧ j.natAbs.log2 < 9000
theorem op_fdivX : OpR X (binaryOp .FloorDiv) (rI CDivX fun i j => .int (i.fdiv j)) :=
  opI fun i j _ _ _ _ _ hc q => floordiv_int hc.1 q (.inl (PyProof.noPylong_of_log2 hc.2))
end
/-! ### the greatest number that parts -/
def spGp : Sp := fun vs H Q _ => ∃ n m : Int, vs = [.int n, .int m] ∧ Q (.int (Int.gcd n m : Nat)) H
def gpar (n m d : Int) : Int := (Int.gcd (Int.gcd n m : Nat) d : Nat)
def spP (n m d : Int) : Int := if d < 0 then -gpar n m d else gpar n m d
def spSpotOf : Sp := fun vs H Q _ => ∃ n m d : Int, vs = [.int n, .int m, .int d] ∧ d ≠ 0 ∧ d.natAbs < 2 ^ 200 ∧
  New H (.tup [.int (n / spP n m d), .int (m / spP n m d), .int (d / spP n m d)]) Q
theorem gpar_dvd (n m d : Int) : gpar n m d ∣ n ∧ gpar n m d ∣ m ∧ gpar n m d ∣ d := by
  unfold gpar
  have h1 : (Int.gcd (Int.gcd n m : Nat) d : Int) ∣ (Int.gcd n m : Nat) := Int.gcd_dvd_left ..
  refine ⟨Int.dvd_trans h1 (Int.gcd_dvd_left ..), Int.dvd_trans h1 (Int.gcd_dvd_right ..), Int.gcd_dvd_right ..⟩
theorem gpar_pos {n m d : Int} (h : d ≠ 0) : 0 < gpar n m d := by
  unfold gpar
  have : 0 < Int.gcd (Int.gcd n m : Nat) d := Int.gcd_pos_of_ne_zero_right _ h
  omega
theorem gpar_le {n m d : Int} (h : d ≠ 0) : gpar n m d ≤ d.natAbs := by
  have := (gpar_dvd n m d).2.2
  have h2 : gpar n m d ∣ (d.natAbs : Int) := Int.dvd_natAbs.mpr this
  exact Int.le_of_dvd (by omega) h2
theorem spP_dvd (n m d : Int) : spP n m d ∣ n ∧ spP n m d ∣ m ∧ spP n m d ∣ d := by
  obtain ⟨h1, h2, h3⟩ := gpar_dvd n m d
  unfold spP
  split
  · exact ⟨Int.neg_dvd.mpr h1, Int.neg_dvd.mpr h2, Int.neg_dvd.mpr h3⟩
  · exact ⟨h1, h2, h3⟩
theorem spP_ne {n m d : Int} (h : d ≠ 0) : spP n m d ≠ 0 := by
  have := gpar_pos (n := n) (m := m) h
  unfold spP
  split <;> omega
/-- the spot of d above nought: some part that all three have, taken out -/
theorem spot_pos {n m d : Int} (h : 0 < d) : ∃ p : Int, 0 < p ∧ n = n / spP n m d * p ∧ m = m / spP n m d * p ∧ d = d / spP n m d * p ∧ 0 < d / spP n m d ∧ d / spP n m d ≤ d := by
  obtain ⟨h1, h2, h3⟩ := gpar_dvd n m d
  have h0 := gpar_pos (n := n) (m := m) (d := d) (by omega)
  have e : spP n m d = gpar n m d := if_neg (by omega)
  rw [e]
  have e3 := Int.ediv_mul_cancel h3
  refine ⟨gpar n m d, h0, (Int.ediv_mul_cancel h1).symm, (Int.ediv_mul_cancel h2).symm, e3.symm, ?_, Int.ediv_le_self _ (by omega)⟩
  exact Int.ediv_pos_of_pos_of_dvd h (by omega) h3
theorem nr_spot {n m d g : Int} (h : 0 < d) : nr (n / spP n m d) (d / spP n m d * g) = nr n (d * g) ∧ nr (m / spP n m d) (d / spP n m d * g) = nr m (d * g) := by
  obtain ⟨p, hp, e1, e2, e3, _⟩ := spot_pos (n := n) (m := m) h
  have c : d * g = d / spP n m d * g * p := by
    conv => lhs; rw [e3]
    rw [Int.mul_assoc, Int.mul_assoc, Int.mul_comm p g]
  have k1 := nr_times (n := n / spP n m d) (g := d / spP n m d * g) hp
  have k2 := nr_times (n := m / spP n m d) (g := d / spP n m d * g) hp
  rw [← e1, ← c] at k1
  rw [← e2, ← c] at k2
  exact ⟨k1.symm, k2.symm⟩
theorem nr_lies {n g : Int} (h : 0 < g) : (2 * nr n g - 1) * g ≤ 2 * n ∧ 2 * n < (2 * nr n g + 1) * g := by
  unfold nr
  have e1 := Int.mul_ediv_add_emod (2 * n + g) (2 * g)
  have e2 := Int.emod_nonneg (2 * n + g) (show 2 * g ≠ 0 by omega)
  have e3 := Int.emod_lt_of_pos (2 * n + g) (show 0 < 2 * g by omega)
  generalize (2 * n + g) / (2 * g) = k at *
  generalize (2 * n + g) % (2 * g) = r at *
  have c1 : (2 * k - 1) * g = 2 * g * k - g := by rw [Int.sub_mul, Int.mul_right_comm]; omega
  have c2 : (2 * k + 1) * g = 2 * g * k + g := by rw [Int.add_mul, Int.mul_right_comm]; omega
  omega
end Cl

namespace Cl
open PySem PySem.Spec PyProof.Rows L2
/-! ### kinds of things -/
def isI : V → Bool
  | .int _ => true
  | _ => false
def isB : V → Bool
  | .bl _ => true
  | _ => false
/-- a thing with the name of its class -/
inductive Kd (K : PySem.W.Frag) (H : Hp) : V → String → Prop where
  | non : Kd K H .non "NoneType"
  | bl (b : Bool) : Kd K H (.bl b) "bool"
  | int (i : Int) : Kd K H (.int i) "int"
  | str (x : Str) : Kd K H (.str x) "str"
  | lst {a : Addr} {xs : List V} (h : SqL K H a xs) : Kd K H (.ref a) "list"
  | tup {a : Addr} {xs : List V} (h : SqT K H a xs) : Kd K H (.ref a) "tuple"
  | dct {a : Addr} {kvs : List (Key × V)} (h : H a = some (.dK kvs)) : Kd K H (.ref a) "dict"
section
variable {K : PySem.W.Frag} {H : Hp} {v : V} {T : String}
theorem Kd.ty (h : Kd K H v T) : TyX K H v (.type T) := by
  cases h with
  | non => exact .base .non
  | bl b => exact .base (.bl b)
  | int i => exact .base (.int i)
  | str x => exact .base (.str x)
  | lst h =>
    rcases h with (h | ⟨o, h⟩) | ⟨o, its, n, h1, h2, _⟩
    · exact .base (.lst h)
    · exact .base (.frz h)
    · exact .kList h1 h2
  | tup h =>
    rcases h with (h | ⟨o, h⟩) | ⟨o, its, n, h1, h2, _⟩
    · exact .base (.tup h)
    · exact .fTuple h
    · exact .kTuple h1 h2
  | dct h => exact .base (.dK h)
theorem Kd.int? (h : Kd K H v T) : kitB T "int" = some (isI v || isB v) := by
  cases h <;> first | (show kitB _ _ = some true; decide +kernel) | (show kitB _ _ = some false; decide +kernel)
theorem Kd.bool? (h : Kd K H v T) : kitB T "bool" = some (isB v) := by
  cases h <;> first | (show kitB _ _ = some true; decide +kernel) | (show kitB _ _ = some false; decide +kernel)
theorem Kd.tuple? (h : Kd K H v T) : kitB T "tuple" = some (decide (T = "tuple")) := by
  cases h <;> first | (show kitB _ _ = some true; decide +kernel) | (show kitB _ _ = some false; decide +kernel)
theorem Kd.str? (h : Kd K H v T) : kitB T "str" = some (decide (T = "str")) := by
  cases h <;> first | (show kitB _ _ = some true; decide +kernel) | (show kitB _ _ = some false; decide +kernel)
end
theorem seT {K : PySem.W.Frag} {H H' : Hp} {a : Addr} {xs : List V} (e : Same H H') (h : SqT K H a xs) : SqT K H' a xs := by
  rcases h with (h | ⟨o, h⟩) | h
  · exact .inl (.inl (e _ _ h))
  · exact .inl (.inr ⟨o, e _ _ h⟩)
  · exact .inr h
/-- isinstance(thing, a built-in class) -/
theorem isi {K : PySem.W.Frag} {H : Hp} {v : V} {T c : String} {b : Bool} {Q : VK} (h : Kd K H v T) (e : kitB T c = some b) (q : Q (.bl b) H) :
    rIsi K [v, .ty c] H Q := ⟨v, .ty c, .type T, .type c, b, rfl, .ty c, h.ty, kit_ty e, q⟩
def spWhole (K : PySem.W.Frag) : Sp := fun vs H Q _ => ∃ v T, vs = [v] ∧ Kd K H v T ∧ Q (.bl (isI v)) H

/-! ### lists of draws -/
def Acc (d l pD : Addr) (H0 : Hp) (i : Nat) (P : Int → Prop) (H' : Hp) : Prop :=
  ∃ xs : List Int, Step d l H0 H' ∧ H' pD = some (.lst (xs.map V.int)) ∧ xs.length = i ∧ ∀ x ∈ xs, P x
section
variable {d l pD : Addr} {H0 H H4 : Hp} {i : Nat} {P : Int → Prop} {y : Int}
theorem Step.updN (S : Step d l H0 H4) (h1 : pD ≠ d) (h2 : pD ≠ l) (n : H0 pD = none) {o : HO} : Step d l H0 (upd H4 pD o) := by
  obtain ⟨ns, s, c, e1, e2, e3⟩ := S.deck.ex
  refine ⟨⟨S.deck.ne, ns, s, c, by rw [upd_ne h1.symm]; exact e1, by rw [upd_ne h2.symm]; exact e2, e3⟩, fun b x e => ?_⟩
  obtain ⟨n1, n2, n3⟩ := hide_at e
  have e5 := (hide_at (S.same b x e)).2.2
  rw [hide_ne n1 n2, upd_ne (ne_of_none n3 n)]
  exact e5
theorem Acc.start (D : Deck H0 d l) (S : Same H0 H) (e : H pD = some (.lst [])) : Acc d l pD H0 0 P H :=
  ⟨[], Step.of D S, e, rfl, fun x h => nomatch h⟩
theorem Acc.turn (A : Acc d l pD H0 i P H) (S : Step d l H H4) (D : Deck H0 d l) (n : H0 pD = none) (hi : i < 1000) (h : P y) :
    ∃ acc, H4 pD = some (.lst acc) ∧ acc.length < sizeLine ∧ Acc d l pD H0 (i + 1) P (upd H4 pD (.lst (acc ++ [.int y]))) := by
  obtain ⟨xs, S0, e, l1, a⟩ := A
  obtain ⟨h1, h2⟩ := D.nd n
  refine ⟨_, S.at h1 h2 e, by rw [List.length_map, l1]; exact small1000 (by omega), xs ++ [y], (S0.trans S).updN h1 h2 n, ?_, by rw [List.length_append, l1]; rfl, fun x hx => ?_⟩
  · rw [upd_same, List.map_append]; rfl
  · rcases List.mem_append.mp hx with z | z
    · exact a x z
    · rw [List.mem_singleton.mp z]; exact h
end
def lcR {lo : Int} {n : Nat} {g : TG} {tt : TT} {te : TE} {vs : List Nat} {σ : L2.St} {H1 : Hp} {D : Addr} {Qd : Hp → Prop}
    (Pv : Nat → Hp → Prop) (hD : H1 D = none) (h0 : ∀ H', Same H1 H' → H' D = some (.lst []) → Pv 0 H')
    (hs : ∀ i H, i < n → Pv i H → g (.int (lo + i)) (wipe σ vs) H fun σ2 H2 => wipe σ2 vs = wipe σ vs ∧ tt σ2 H2 fun b H3 =>
      if b = true then te σ2 H3 fun y H4 => ∃ acc, H4 D = some (.lst acc) ∧ acc.length < sizeLine ∧ Pv (i + 1) (upd H4 D (.lst (acc ++ [y]))) else Pv (i + 1) H3)
    (hd : ∀ H, Pv n H → Qd H) :=
  lc_range (lo := lo) (n := n) (g := g) (tt := tt) (te := te) (vs := vs) (σ := σ) (H1 := H1) (D := D) (Qd := Qd) Pv (h0 _ (same_new hD) upd_same) hs hd
theorem two {xs : List Int} (h : xs.length = 2) : ∃ x y, xs = [x, y] := by
  match xs, h with
  | [x, y], _ => exact ⟨x, y, rfl⟩
end Cl

namespace Cl
open PySem PySem.Spec PyProof.Rows L2
/-! ### pairs of whole numbers -/
def pd (p : Int × Int) : PyData := .tuple [.int p.1, .int p.2]
def At2 (K : PySem.W.Frag) (H : Hp) (v : V) (p : Int × Int) : Prop := ∃ a, v = .ref a ∧ SqT K H a [.int p.1, .int p.2]
def llt (p q : Int × Int) : Bool := decide (p.1 < q.1 ∨ (p.1 = q.1 ∧ p.2 < q.2))
def mn (p q : Int × Int) : Int × Int := if llt q p then q else p
def mx (p q : Int × Int) : Int × Int := if llt p q then q else p
theorem At2.dp {K : PySem.W.Frag} {H : Hp} {v : V} {p : Int × Int} (h : At2 K H v p) : Dp K H v (pd p) := by
  obtain ⟨a, rfl, h⟩ := h
  exact .tup h (.cons (.int _) (.cons (.int _) .nil))
theorem At2.same {K : PySem.W.Frag} {H H' : Hp} {v : V} {p : Int × Int} (h : At2 K H v p) (s : Same H H') : At2 K H' v p := by
  obtain ⟨a, rfl, h⟩ := h
  exact ⟨a, rfl, seT s h⟩
theorem lt_pd (p q : Int × Int) : PySem.W.dataLt (pd p) (pd q) = llt p q := by
  obtain ⟨a, b⟩ := p
  obtain ⟨c, d⟩ := q
  have e1 : PySem.W.keyToks (pd (a, b)) = [.inl 1, .inl a, .inl 1, .inl b, .inl 0] := by simp [pd, PySem.W.keyToks, PySem.W.keyToksAll]
  have e2 : PySem.W.keyToks (pd (c, d)) = [.inl 1, .inl c, .inl 1, .inl d, .inl 0] := by simp [pd, PySem.W.keyToks, PySem.W.keyToksAll]
  unfold PySem.W.dataLt llt
  rw [e1, e2, lex_self (O := itemOrd)]
  by_cases h : a = c
  · subst h
    rw [lex_self (O := itemOrd), lex_self (O := itemOrd)]
    by_cases h2 : b = d
    · subst h2
      rw [lex_self (O := itemOrd), lex_self (O := itemOrd)]
      simp
      rfl
    · rw [lex_diff (O := itemOrd) (by simpa using h2)]
      show decide (b < d) = _
      simp
  · rw [lex_diff (O := itemOrd) (by simpa using h)]
    show decide (a < c) = _
    simp [h]
theorem alike_pd (p q : Int × Int) : PySem.W.alike (pd p) (pd q) = true := rfl
theorem pd_inj {p q : Int × Int} (h : pd p = pd q) : p = q := by
  unfold pd at h
  injection h with h
  injection h with h1 h2
  injection h1 with h1
  injection h2 with h2 _
  injection h2 with h2
  exact Prod.ext h1 h2
section
variable {X : Cx}
def rCmp2 (K : PySem.W.Frag) (f : Int × Int → Int × Int → Bool) : R2 := fun x y H Q => ∃ p q, At2 K H x p ∧ At2 K H y q ∧ Q (.bl (f p q)) H
theorem op_le2 (hu : X.A.units + 64 < cLine) : OpR X (compareOp .LtE) (rCmp2 X.K fun p q => !llt q p) := by
  intro pins s σ H x y v u Q I rx ry ⟨p, q, hp, hq, h⟩
  obtain ⟨as, r1⟩ := Dp.reads I _ x v hp.dp rx
  obtain ⟨bs, r2⟩ := Dp.reads I _ y u hq.dp ry
  exact PySem.W.le_data r1 r2 (alike_pd p q) (fun z => nomatch z) (by show X.A.units + min 1 1 < cLine; omega) ⟨.bl _, H, I, rfl, by rw [lt_pd]; exact h⟩
theorem op_gt2 (hu : X.A.units + 64 < cLine) : OpR X (compareOp .Gt) (rCmp2 X.K fun p q => llt q p) := by
  intro pins s σ H x y v u Q I rx ry ⟨p, q, hp, hq, h⟩
  obtain ⟨as, r1⟩ := Dp.reads I _ x v hp.dp rx
  obtain ⟨bs, r2⟩ := Dp.reads I _ y u hq.dp ry
  exact PySem.W.gt_data r1 r2 (alike_pd p q) (fun z => nomatch z) (by show X.A.units + min 1 1 < cLine; omega) ⟨.bl _, H, I, rfl, by rw [lt_pd]; exact h⟩

/-- min, max of a tuple of two pairs: the pair itself -/
def rBest1 (K : PySem.W.Frag) (f : Int × Int → Int × Int → Int × Int) : List V → Hp → VK → Prop := fun xs H Q =>
  ∃ a u v p q, xs = [.ref a] ∧ SqT K H a [u, v] ∧ At2 K H u p ∧ At2 K H v q ∧ ∀ w, (w = u ∨ w = v) → At2 K H w (f p q) → Q w H
def rBest2 (K : PySem.W.Frag) (f : Int × Int → Int × Int → Int × Int) : List V → Hp → VK → Prop := fun xs H Q =>
  ∃ u v p q, xs = [u, v] ∧ At2 K H u p ∧ At2 K H v q ∧ ∀ w, (w = u ∨ w = v) → At2 K H w (f p q) → Q w H
theorem pick2 {pins : List (Addr × Obj)} {σ : L2.St} {H : Hp} {s : Shared} {h' : Heap} {tk : Nat} {u v : V} {u0 v0 w0 : Value} {p q r : Int × Int} {bs : List Addr} {Q : VK} {i : Nat}
    (I : Inv X pins σ H s) (hk : ∀ b o, s.heap.get? b = some o → h'.get? b = some o) (ru : RelV u u0) (rv : RelV v v0) (hu : At2 X.K H u p) (hv : At2 X.K H v q)
    (e : #[u0, v0][i]? = some w0) (rd : Reads h' w0 (pd r) bs) (h : ∀ w, (w = u ∨ w = v) → At2 X.K H w r → Q w H) :
    EP X pins σ Q w0 { s with heap := h', toks := tk } := by
  have J : Inv X pins σ H { s with heap := h', toks := tk } := I.kept hk
  match i, e with
  | 0, e =>
    cases e
    obtain ⟨as, r1⟩ := Dp.reads J _ u u0 hu.dp ru
    have e2 := pd_inj (rd.unique _ _ r1).1
    subst e2
    exact ⟨u, H, J, ru, h u (.inl rfl) hu⟩
  | 1, e =>
    cases e
    obtain ⟨as, r1⟩ := Dp.reads J _ v v0 hv.dp rv
    have e2 := pd_inj (rd.unique _ _ r1).1
    subst e2
    exact ⟨v, H, J, rv, h v (.inr rfl) hv⟩
  | i + 2, e => exact absurd e (by simp)
theorem all_alike (p q : Int × Int) : PySem.W.AlikeAll [pd p, pd q] := by
  constructor
  · intro x hx y hy
    simp only [List.mem_cons, List.not_mem_nil, or_false] at hx hy
    rcases hx with rfl | rfl <;> rcases hy with rfl | rfl <;> rfl
  · intro x hx
    simp only [List.mem_cons, List.not_mem_nil, or_false] at hx
    rcases hx with rfl | rfl <;> exact fun z => nomatch z
theorem best_mn (p q : Int × Int) : PySem.W.minD (pd p) [pd q] = pd (mn p q) := by
  unfold PySem.W.minD mn
  simp only [List.foldl, lt_pd]
  split <;> rfl
theorem best_mx (p q : Int × Int) : PySem.W.maxD (pd p) [pd q] = pd (mx p q) := by
  unfold PySem.W.maxD mx
  simp only [List.foldl, lt_pd]
  split <;> rfl
theorem cr_min1 (hc : X.calm = true) (hu : X.A.units + 64 < cLine) : CallR X (.builtin "min") (rBest1 X.K mn) := by
  intro pins s σ H xs us Q I r ⟨a, u, v, p, q, e, hS, hp, hq, h⟩
  subst e
  rw [Vals.ref1 r]
  obtain ⟨its, rv, ht, hz⟩ := I.tuple hS
  obtain ⟨u0, v0, rfl, r1, r2⟩ := vals2 rv
  obtain ⟨as, rd1⟩ := Dp.reads I _ u u0 hp.dp r1
  obtain ⟨bs, rd2⟩ := Dp.reads I _ v v0 hq.dp r2
  refine PySem.W.min_tuple_data (x := pd p) (xs := [pd q]) (I.ok.hd hc) ht (.cons rd1 (.cons rd2 .nil)) (all_alike p q) (by show X.A.units + 1 + max 1 (max 1 0) < cLine; omega) fun i w h' tk cs hi rd hk => ?_
  rw [best_mn] at rd
  exact pick2 I hk r1 r2 hp hq hi rd h
theorem cr_max1 (hc : X.calm = true) (hu : X.A.units + 64 < cLine) : CallR X (.builtin "max") (rBest1 X.K mx) := by
  intro pins s σ H xs us Q I r ⟨a, u, v, p, q, e, hS, hp, hq, h⟩
  subst e
  rw [Vals.ref1 r]
  obtain ⟨its, rv, ht, hz⟩ := I.tuple hS
  obtain ⟨u0, v0, rfl, r1, r2⟩ := vals2 rv
  obtain ⟨as, rd1⟩ := Dp.reads I _ u u0 hp.dp r1
  obtain ⟨bs, rd2⟩ := Dp.reads I _ v v0 hq.dp r2
  refine PySem.W.max_tuple_data (x := pd p) (xs := [pd q]) (I.ok.hd hc) ht (.cons rd1 (.cons rd2 .nil)) (all_alike p q) (by show X.A.units + 1 + max 1 (max 1 0) < cLine; omega) fun i w h' tk cs hi rd hk => ?_
  rw [best_mx] at rd
  exact pick2 I hk r1 r2 hp hq hi rd h
/-- max(u, v), min(u, v) of two pairs -/
theorem cr_max2 (hc : X.calm = true) (hu : X.A.units + 64 < cLine) : CallR X (.builtin "max") (rBest2 X.K mx) := by
  intro pins s σ H xs us Q I r ⟨u, v, p, q, e, hp, hq, h⟩
  subst e
  obtain ⟨u0, v0, rfl, r1, r2⟩ := vals2 r
  have nm : (toString "max" ++ toString ".loop" : String) = "max.loop" := by decide
  have bp : Builtin.Builtins.bindParams "max" ["key", "default"] 0 ⟨[], []⟩ = pure [none, none] := rfl
  refine call_function_tree F.kind_max F.plain_max F.entry_max (F.args_max2 _ _) ?_
  show wpAny _ X.A.in1 (Builtin.Builtins.bindParams "max" ["key", "default"] 0 ⟨[], []⟩ >>= _) _ _ s
  refine wpAny_bind (wpAny_of_eq bp ?_)
  show wpAny _ X.A.in1 (newTuple [u0, v0] >>= _) _ _ s
  refine wpAny_bind (wpAny_newObj_type ?_)
  have I1 : Inv X pins σ H { s with heap := s.heap.push { cls := .type "tuple", data := .seq #[u0, v0] } } :=
    I.kept (t' := s.toks) fun b ob z => Heap.get?_push_of_some _ z
  obtain ⟨as, rd1⟩ := Dp.reads I1 _ u u0 hp.dp r1
  obtain ⟨bs, rd2⟩ := Dp.reads I1 _ v v0 hq.dp r2
  have rds : ReadsAll (s.heap.push { cls := .type "tuple", data := .seq #[u0, v0] }) [u0, v0] [pd p, pd q] _ := .cons rd1 (.cons rd2 .nil)
  have cm := PySem.W.cmpIn_gt (prog := X.prog) (w := X.w) (A := X.A.in1) (s := { s with heap := s.heap.push { cls := .type "tuple", data := .seq #[u0, v0] } }) (vs := #[u0, v0]) rds (all_alike p q)
    (by show X.A.units + 1 + max 1 (max 1 0) < cLine; omega)
  refine wpAny_bind (wpAny_mono (PySem.W.iter_tupleW (A := X.A.in1) (vs := #[u0, v0]) (I.ok.hd hc) ⟨_, Heap.get?_push_size _ rfl, rfl, _, rfl⟩ (Q := fun it s2 => ∃ I' fp wr, ∃ G : Array GenState → Array GenState → Prop, ∃ St : Nat → Shared → Prop, it = .ref I' ∧
    WalksS X.prog X.w X.A.in1 I' fp wr G 2 (fun i v => #[u0, v0][i]? = some v) St ∧ St 0 s2 ∧ (∀ b ∈ fp, b < s2.heap.objs.size) ∧ (∀ b o, (s.heap.push { cls := .type "tuple", data := .seq #[u0, v0] }).get? b = some o → b ∉ wr) ∧
    (∀ b o, (s.heap.push { cls := .type "tuple", data := .seq #[u0, v0] }).get? b = some o → s2.heap.get? b = some o) ∧ s2.os = s.os ∧ s2.gens = s.gens ∧ G = (fun a b => b = a) ∧ s2.drawn = s.drawn) fun s2 e2 W st hfp hw hk => ?_) (fun it s2 hh => ?_) fun _ _ z => z)
  · exact ⟨_, _, _, _, _, rfl, W, st, hfp, hw, hk, by rw [e2], by rw [e2], rfl, by rw [e2]⟩
  · obtain ⟨I', fp, wr, G, St, rfl, W, hst, hfp, hw, hkeep, eo, eg, hG, ed⟩ := hh
    refine wpAny_bind (wpAny_newObj_type ?_)
    have hSf : s2.heap.objs.size ∉ fp := fun hm => Nat.lt_irrefl _ (hfp _ hm)
    rw [nm]
    refine wpAny_pure ⟨plainId_quiet F.plain_max_loop _, codeAny_max_loop_firstH W _ hw _ cm s2.heap.objs.size hSf (fresh_in hkeep) _ (by decide)
      (fun b o e => Heap.get?_push_of_some _ (hkeep b o e)) (W.frame 0 s2 _ s2.toks hst (Nat.le_refl _) fun b _ o e => Heap.get?_push_of_some _ e) (Heap.get?_push_size _ rfl) fun v' s' hP hm => ?_⟩
    have m := Moved.drop_new (tk := s2.toks) hm (Nat.le_refl _)
    have eb : argBest (fun i j => PySem.W.dataLt ([pd p, pd q].getD j PyData.none) ([pd p, pd q].getD i PyData.none)) (2 - 1) = if llt p q = true then 1 else 0 := by
      show (if PySem.W.dataLt (pd p) (pd q) = true then 1 else 0) = _
      rw [lt_pd]
    rw [eb] at hP
    have hs' : s' = { s with heap := s'.heap, toks := s'.toks } := by
      obtain ⟨hp', g', d', tk', os'⟩ := s'
      have h1 := m.gens
      rw [hG] at h1
      have h1 : g' = s.gens := h1.trans eg
      have h2 : d' = s.drawn := m.drawn.trans ed
      have h3 : os' = s.os := m.os.trans eo
      subst h1 h2 h3
      rfl
    have J : Inv X pins σ H { s with heap := s'.heap, toks := s'.toks } := I.kept fun b o z => by
      have z1 := Heap.get?_push_of_some { cls := .type "tuple", data := .seq #[u0, v0] } z
      exact m.heap b o (hw _ _ z1) (hkeep _ _ z1)
    rw [hs']
    cases hl : llt p q with
    | true =>
      rw [hl] at hP
      cases hP
      have e3 : mx p q = q := if_pos hl
      exact ⟨v, H, J, r2, h v (.inr rfl) (by rw [e3]; exact hq)⟩
    | false =>
      rw [hl] at hP
      cases hP
      have e3 : mx p q = p := if_neg (by rw [hl]; decide)
      exact ⟨u, H, J, r1, h u (.inl rfl) (by rw [e3]; exact hp)⟩
/-- min(u, v) of two pairs -/
theorem cr_min2 (hc : X.calm = true) (hu : X.A.units + 64 < cLine) : CallR X (.builtin "min") (rBest2 X.K mn) := by
  intro pins s σ H xs us Q I r ⟨u, v, p, q, e, hp, hq, h⟩
  subst e
  obtain ⟨u0, v0, rfl, r1, r2⟩ := vals2 r
  have nm : (toString "min" ++ toString ".loop" : String) = "min.loop" := by decide
  have bp : Builtin.Builtins.bindParams "min" ["key", "default"] 0 ⟨[], []⟩ = pure [none, none] := rfl
  refine call_function_tree F.kind_min F.plain_min F.entry_min (F.args_min2 _ _) ?_
  show wpAny _ X.A.in1 (Builtin.Builtins.bindParams "min" ["key", "default"] 0 ⟨[], []⟩ >>= _) _ _ s
  refine wpAny_bind (wpAny_of_eq bp ?_)
  show wpAny _ X.A.in1 (newTuple [u0, v0] >>= _) _ _ s
  refine wpAny_bind (wpAny_newObj_type ?_)
  have I1 : Inv X pins σ H { s with heap := s.heap.push { cls := .type "tuple", data := .seq #[u0, v0] } } :=
    I.kept (t' := s.toks) fun b ob z => Heap.get?_push_of_some _ z
  obtain ⟨as, rd1⟩ := Dp.reads I1 _ u u0 hp.dp r1
  obtain ⟨bs, rd2⟩ := Dp.reads I1 _ v v0 hq.dp r2
  have rds : ReadsAll (s.heap.push { cls := .type "tuple", data := .seq #[u0, v0] }) [u0, v0] [pd p, pd q] _ := .cons rd1 (.cons rd2 .nil)
  have cm := PySem.W.cmpIn_lt (prog := X.prog) (w := X.w) (A := X.A.in1) (s := { s with heap := s.heap.push { cls := .type "tuple", data := .seq #[u0, v0] } }) (vs := #[u0, v0]) rds (all_alike p q)
    (by show X.A.units + 1 + max 1 (max 1 0) < cLine; omega)
  refine wpAny_bind (wpAny_mono (PySem.W.iter_tupleW (A := X.A.in1) (vs := #[u0, v0]) (I.ok.hd hc) ⟨_, Heap.get?_push_size _ rfl, rfl, _, rfl⟩ (Q := fun it s2 => ∃ I' fp wr, ∃ G : Array GenState → Array GenState → Prop, ∃ St : Nat → Shared → Prop, it = .ref I' ∧
    WalksS X.prog X.w X.A.in1 I' fp wr G 2 (fun i v => #[u0, v0][i]? = some v) St ∧ St 0 s2 ∧ (∀ b ∈ fp, b < s2.heap.objs.size) ∧ (∀ b o, (s.heap.push { cls := .type "tuple", data := .seq #[u0, v0] }).get? b = some o → b ∉ wr) ∧
    (∀ b o, (s.heap.push { cls := .type "tuple", data := .seq #[u0, v0] }).get? b = some o → s2.heap.get? b = some o) ∧ s2.os = s.os ∧ s2.gens = s.gens ∧ G = (fun a b => b = a) ∧ s2.drawn = s.drawn) fun s2 e2 W st hfp hw hk => ?_) (fun it s2 hh => ?_) fun _ _ z => z)
  · exact ⟨_, _, _, _, _, rfl, W, st, hfp, hw, hk, by rw [e2], by rw [e2], rfl, by rw [e2]⟩
  · obtain ⟨I', fp, wr, G, St, rfl, W, hst, hfp, hw, hkeep, eo, eg, hG, ed⟩ := hh
    refine wpAny_bind (wpAny_newObj_type ?_)
    have hSf : s2.heap.objs.size ∉ fp := fun hm => Nat.lt_irrefl _ (hfp _ hm)
    rw [nm]
    refine wpAny_pure ⟨plainId_quiet F.plain_min_loop _, codeAny_min_loop_firstH W _ hw _ cm s2.heap.objs.size hSf (fresh_in hkeep) _ (by decide)
      (fun b o e => Heap.get?_push_of_some _ (hkeep b o e)) (W.frame 0 s2 _ s2.toks hst (Nat.le_refl _) fun b _ o e => Heap.get?_push_of_some _ e) (Heap.get?_push_size _ rfl) fun v' s' hP hm => ?_⟩
    have m := Moved.drop_new (tk := s2.toks) hm (Nat.le_refl _)
    have eb : argBest (fun i j => PySem.W.dataLt ([pd p, pd q].getD i PyData.none) ([pd p, pd q].getD j PyData.none)) (2 - 1) = if llt q p = true then 1 else 0 := by
      show (if PySem.W.dataLt (pd q) (pd p) = true then 1 else 0) = _
      rw [lt_pd]
    rw [eb] at hP
    have hs' : s' = { s with heap := s'.heap, toks := s'.toks } := by
      obtain ⟨hp', g', d', tk', os'⟩ := s'
      have h1 := m.gens
      rw [hG] at h1
      have h1 : g' = s.gens := h1.trans eg
      have h2 : d' = s.drawn := m.drawn.trans ed
      have h3 : os' = s.os := m.os.trans eo
      subst h1 h2 h3
      rfl
    have J : Inv X pins σ H { s with heap := s'.heap, toks := s'.toks } := I.kept fun b o z => by
      have z1 := Heap.get?_push_of_some { cls := .type "tuple", data := .seq #[u0, v0] } z
      exact m.heap b o (hw _ _ z1) (hkeep _ _ z1)
    rw [hs']
    cases hl : llt q p with
    | true =>
      rw [hl] at hP
      cases hP
      have e3 : mn p q = q := if_pos hl
      exact ⟨v, H, J, r2, h v (.inr rfl) (by rw [e3]; exact hq)⟩
    | false =>
      rw [hl] at hP
      cases hP
      have e3 : mn p q = p := if_neg (by rw [hl]; decide)
      exact ⟨u, H, J, r1, h u (.inl rfl) (by rw [e3]; exact hp)⟩
end
end Cl

namespace Cl
open PySem PySem.Spec PyProof.Rows L2
def pr (q : Addr × List Int) : Int × Int := (q.2.getD 0 0, q.2.getD 1 0)
def le2 (q r : Addr × List Int) : Prop := llt (pr r) (pr q) = false
theorem pr_of {q : Addr × List Int} (h : q.2.length = 2) : q.2 = [(pr q).1, (pr q).2] := by
  obtain ⟨a, xs⟩ := q
  match xs, h with
  | [x, y], _ => rfl
section
variable {P : Program} {w : World} {A : Around} {E : Value → Shared → Prop} {s : Shared} {a : Addr} {L : List (Addr × List Int)}
  {es : Array (Int × Value)} {ep : Nat} {t : SetTable} {Q : Value → Shared → Prop}
/-- sorted(set) of pairs of any whole numbers -/
theorem sorted_set2 (R : SetTR P w s.heap a L es ep t) (hh : A.handled = none) (h2 : ∀ p ∈ L, p.2.length = 2) (hu : A.units + 64 < cLine)
    (hQ : ∀ s' p (out : Array Value) (c : Nat) (L' : List (Addr × List Int)), (∀ b o, s.heap.get? b = some o → s'.heap.get? b = some o) →
      s'.gens = s.gens → s'.os = s.os → s.heap.objs.size ≤ p → s'.heap.get? p = some (seqObj "list" out c) →
      out.toList = L'.map (fun q => Value.ref q.1) → L'.Perm L → L'.Pairwise le2 → Q (.ref p) s') :
    wpAny (model P w) A (call (.builtin "sorted") [.ref a]) Q E s := by
  obtain ⟨o, ho, hex, hd⟩ := R.ob
  have nfew := R.few
  refine Calls.call_function_entry kind_sorted plain_sorted entry_sorted (args_sorted1 _) ?_
  unfold Builtin.«sorted»
  refine wpAny_bind (m := checkCount "sorted" 1 1 _) (wpAny_pure ?_)
  refine wpAny_bind (collect_set (A := A.in1) hh ⟨o, ho, hex.1, hd⟩ R.fits (by unfold scanBound; have := R.size; omega) R.tab.ris R.led fun s1 vs k1 hz g1 o1 pm => ?_)
  have rows : es.toList.map (·.2) = L.map fun q => Value.ref q.1 := by
    rw [R.rows]
    unfold rowsOf
    rw [List.map_map]
    rfl
  rw [rows] at pm
  -- what was collected is the set's rows, put in some order
  obtain ⟨L1, e1, p1⟩ : ∃ L1 : List (Addr × List Int), vs = L1.map (fun q => Value.ref q.1) ∧ L1.Perm L := by
    clear hQ k1 g1 o1 hz
    have gen : ∀ (L : List (Addr × List Int)) (us vs : List Value), us = L.map (fun q => Value.ref q.1) → vs.Perm us → ∃ L1 : List (Addr × List Int), vs = L1.map (fun q => Value.ref q.1) ∧ L1.Perm L := by
      intro L us vs eu hp
      induction hp generalizing L with
      | nil =>
        cases L with
        | nil => exact ⟨[], rfl, .nil⟩
        | cons q L => cases eu
      | @cons x l1 l2 hp ih =>
        cases L with
        | nil => cases eu
        | cons q L =>
          rw [List.map_cons] at eu
          injection eu with e2 e3
          obtain ⟨L1, e4, p4⟩ := ih L e3
          exact ⟨q :: L1, by rw [List.map_cons, e2, e4], p4.cons q⟩
      | swap x y l =>
        match L, eu with
        | q :: r :: L, eu =>
          rw [List.map_cons, List.map_cons] at eu
          injection eu with e2 e3
          injection e3 with e3 e4
          exact ⟨r :: q :: L, by rw [List.map_cons, List.map_cons, e2, e3, e4], .swap ..⟩
        | [_], eu => cases eu
        | [], eu => cases eu
      | trans h1 h2 ih1 ih2 =>
        obtain ⟨L2, e2, p2⟩ := ih2 L eu
        obtain ⟨L1, e1, p1⟩ := ih1 L2 e2
        exact ⟨L1, e1, p1.trans p2⟩
    exact gen L _ vs rfl pm
  have n1 : vs.length = L.length := by rw [e1, List.length_map, p1.length_eq]
  have small : vs.length ≤ sizeLine := by rw [sizeLine_eq]; omega
  refine wpAny_bind (wpAny_newList ?_ small)
  have oL : (s1.heap.push (seqObj "list" vs.toArray 0)).get? s1.heap.objs.size = some (seqObj "list" vs.toArray 0) := Heap.get?_push_size _ rfl
  let enc : Addr × List Int → PyData := fun q => .tuple [.int (pr q).1, .int (pr q).2]
  have reads : ∀ q ∈ L, ∃ as, Reads (s1.heap.push (seqObj "list" vs.toArray 0)) (.ref q.1) (enc q) as ∧ s1.heap.objs.size ∉ as := fun q hq => by
    obtain ⟨ob, its, n, x1, x2, x3, x4⟩ := R.tup q hq
    have x5 := ints_of_items x4
    rw [pr_of (h2 q hq)] at x5
    have lt := Heap.lt_size x1
    have y1 := Heap.get?_push_of_some (seqObj "list" vs.toArray 0) (k1 _ _ x1)
    obtain ⟨l, el⟩ : ∃ l, its.toList = l := ⟨_, rfl⟩
    rw [el] at x5
    have ei : its = l.toArray := by rw [← el]
    subst ei
    match l, x5 with
    | [.int _ t1, .int _ t2], .cons _ _ (.cons _ _ .nil) =>
      refine ⟨_, Reads.tuple y1 x2 x3 (.cons (.int _ _) (.cons (.int _ _) .nil)), fun z => ?_⟩
      have z2 : s1.heap.objs.size = q.1 := by simpa using z
      exact absurd (Nat.lt_of_lt_of_le lt hz) (by rw [z2]; exact Nat.lt_irrefl _)
  have each : ∀ l : List (Addr × List Int), (∀ q ∈ l, q ∈ L) → PySem.W.EachIs (fun (v : Value) (q : Addr × List Int) => v = .ref q.1) (l.map fun q => Value.ref q.1) l ∧
      PySem.W.EachIs (fun v q => ∃ as, Reads (s1.heap.push (seqObj "list" vs.toArray 0)) v (enc q) as ∧ s1.heap.objs.size ∉ as) (l.map fun q => Value.ref q.1) l := by
    intro l
    induction l with
    | nil => intro _; exact ⟨.nil, .nil⟩
    | cons q l ih =>
      intro h
      obtain ⟨i1, i2⟩ := ih fun r hr => h r (List.mem_cons_of_mem _ hr)
      exact ⟨.cons rfl i1, .cons (reads q (h q List.mem_cons_self)) i2⟩
  obtain ⟨c1, c2⟩ := each L1 fun q hq => p1.mem_iff.mp hq
  rw [← e1] at c1 c2
  refine wpAny_bind (wpAny_holding (PySem.W.list_sort_data (s := { s1 with heap := s1.heap.push (seqObj "list" vs.toArray 0) }) (enc := enc) oL c1 c2 (.of fun _ _ => rfl) (.tuples fun b => ⟨_, _, rfl⟩) (by rw [p1.length_eq, sizeLine_eq]; omega)
    (fun b _ => by show A.in1.units + 1 + 1 < cLine; show A.units + 1 + 1 + 1 < cLine; omega) fun out a1 a2 => ?_))
  obtain ⟨c, hc⟩ := sortedHeap_at (vs := vs) (out := out.toArray) oL
  have eo : out = (L1.mergeSort (PySem.W.dataLe false enc)).map fun q => Value.ref q.1 := by
    revert a2
    generalize L1.mergeSort (PySem.W.dataLe false enc) = M
    intro a2
    clear hc a1
    induction a2 with
    | nil => rfl
    | cons h t ih => rw [List.map_cons, ← ih, h]
  have pM : (L1.mergeSort (PySem.W.dataLe false enc)).Perm L := (List.mergeSort_perm _ _).trans p1
  have pw : (L1.mergeSort (PySem.W.dataLe false enc)).Pairwise le2 := by
    have hle : PySem.W.dataLe false enc = fun p q => decide ((pr p).1 < (pr q).1 ∨ ((pr p).1 = (pr q).1 ∧ (pr p).2 ≤ (pr q).2)) :=
      PySem.W.dataLe_ii (fun q => (pr q).1) (fun q => (pr q).2)
    rw [hle]
    refine List.Pairwise.imp (fun {q r} h => ?_) (List.pairwise_mergeSort (fun p q r h1 h2 => ?_) (fun p q => ?_) L1)
    · have h := of_decide_eq_true h
      unfold le2 llt
      exact decide_eq_false (by omega)
    · have h1 := of_decide_eq_true h1
      have h2 := of_decide_eq_true h2
      exact decide_eq_true (by omega)
    · rw [Bool.or_eq_true, decide_eq_true_eq, decide_eq_true_eq]
      omega
  refine wpAny_pure ⟨_, rfl, hQ _ s1.heap.objs.size out.toArray c (L1.mergeSort (PySem.W.dataLe false enc)) (fun b u e => ?_) g1 o1 hz hc eo pM pw⟩
  have e5 := k1 b u e
  have lt5 := Heap.lt_size e5
  show (sortedHeap (s1.heap.push (seqObj "list" vs.toArray 0)) s1.heap.objs.size vs out.toArray).get? b = some u
  rw [sortedHeap_old (Nat.ne_of_lt lt5) (by rw [size_push']; exact Nat.lt_succ_of_lt lt5)]
  exact Heap.get?_push_of_some _ e5
end
section
variable {X : Cx}
def rSortedS2 (K : PySem.W.Frag) (P : Program) (w : World) : List V → Hp → VK → Prop := fun vs H Q => ∃ (a : Addr) (L : List (Addr × List Int)),
  vs = [V.ref a] ∧ H a = some (SetTO P w a L) ∧ (∀ p ∈ L, SqT K H p.1 (p.2.map V.int)) ∧ (∀ p ∈ L, p.2.length = 2) ∧
  ∀ L' : List (Addr × List Int), L'.Perm L → (L'.map (·.2)).Nodup → L'.Pairwise le2 → New H (.lst (L'.map fun q => V.ref q.1)) Q
theorem cr_sortedS2 (hc : X.calm = true) (hu : X.A.units + 64 < cLine) : CallR X (.builtin "sorted") (rSortedS2 X.K X.prog X.w) := by
  intro pins s σ H vs us Q I r ⟨a, L, e, ha, hk, h2, q⟩
  subst e
  obtain ⟨es, ep, t, R⟩ := SetT0.full (I.hok a _ ha).1 fun p hp => I.isT (hk p hp)
  rw [Vals.ref1 r]
  refine sorted_set2 R (I.ok.hd hc) h2 hu fun s' p out c L' k g o hp hg hout pm pw => ?_
  have few : L'.length < 64 := by rw [pm.length_eq]; exact R.few
  have len : (L'.map fun q => V.ref q.1).length ≤ sizeLine := by rw [List.length_map, sizeLine_eq]; omega
  have hn : H p = none := I.hok.fresh hp
  have hv : Vals (L'.map fun q => V.ref q.1) out.toList := by rw [hout]; exact vals_of_refs L'
  have J : Inv X pins σ (upd H p (.lst (L'.map fun q => V.ref q.1))) { s with heap := s'.heap, gens := s'.gens, drawn := s'.drawn, toks := s'.toks } :=
    I.call (ch := []) (Un.laid k hp hn) (I.hok.laid k hp ⟨len, out.toList, c, hv, hg⟩) (by rw [g]; exact I.bare) (fun _ z => nomatch z)
  have e : s' = { s with heap := s'.heap, gens := s'.gens, drawn := s'.drawn, toks := s'.toks } := by
    cases s'
    cases s
    cases o
    rfl
  rw [e]
  exact ⟨.ref p, _, J, rfl, (q L' pm ((pm.map (·.2)).nodup_iff.mpr R.nd) pw).go p hn⟩
def rSetN (K : PySem.W.Frag) (P : Program) (w : World) : List V → Hp → VK → Prop := fun xs H Q => ∃ (l : Addr) (ks : List (Addr × List Int)), xs = [V.ref l] ∧ SqL K H l (ks.map fun p => V.ref p.1) ∧
  (∀ p ∈ ks, SqT K H p.1 (p.2.map V.int)) ∧ ks.length < 64 ∧ ∀ a H' L, Same H H' → H a = none → H' a = some (SetTO P w a L) → (∀ p ∈ L, p ∈ ks) → (∀ p ∈ ks, p.2 ∈ L.map (·.2)) → Q (.ref a) H'
theorem cr_setN (hc : X.calm = true) (hu : X.A.units + 64 < cLine) : CallR X (.type "set") (rSetN X.K X.prog X.w) := by
  intro pins s σ H xs us Q I r ⟨l, ks, e, h1, h2, h3, q⟩
  exact cr_setOfT hc hu pins s σ H xs us Q I r ⟨l, ks, e, h1, h2, h3, fun a L n s1 s2 => q a _ L (same_new n) n upd_same s1 s2⟩
end
end Cl

namespace Cl
open PySem PySem.Spec PyProof.Rows L2 HT
/-! ### t[::-1] of a tuple -/
theorem rev_adjust (n : Nat) : Builtin.Slice.sliceAdjust none none (-1) (n : Int) = ((n : Int) - 1, -1) := rfl
theorem rev_places (n : Nat) : Builtin.Slice.slicePlaces ((n : Int) - 1) (-1) (-1) = n := by
  unfold Builtin.Slice.slicePlaces
  rw [if_neg (by decide)]
  split
  · rw [show ((n : Int) - 1 - -1 - 1) / (- -1) = (n : Int) - 1 by rw [show (- -1 : Int) = 1 by decide, Int.ediv_one]; omega]
    omega
  · omega
theorem fm_congr {α β : Type} {f g : α → Option β} : ∀ (l : List α), (∀ k ∈ l, f k = g k) → l.filterMap f = l.filterMap g
  | [], _ => rfl
  | x :: l, h => by
    rw [List.filterMap_cons, List.filterMap_cons, h x List.mem_cons_self, fm_congr l fun k hk => h k (List.mem_cons_of_mem _ hk)]
theorem rev_pick (xs : Array Value) : ((List.range xs.size).filterMap fun (k : Nat) => xs[((xs.size : Int) - 1 + (k : Int) * -1).toNat]?).toArray = xs.toList.reverse.toArray := by
  congr 1
  have e : (List.range xs.size).filterMap (fun (k : Nat) => xs[((xs.size : Int) - 1 + (k : Int) * -1).toNat]?) =
      ((List.range xs.size).map fun k => xs.size - 1 - k).filterMap (xs[·]?) := by
    rw [List.filterMap_map]
    refine fm_congr _ fun k hk => ?_
    have hk := List.mem_range.mp hk
    show xs[((xs.size : Int) - 1 + (k : Int) * -1).toNat]? = xs[xs.size - 1 - k]?
    congr 1
    omega
  rw [e, PySem.W.krv_range, List.filterMap_reverse, PySem.W.krv_all]
section
variable {prog : Program} {w : World} {A : Around} {E : Value → Shared → Prop} {s : Shared}
theorem getItem_tuple_rev {t sl : Addr} {items : Array Value} {tk : Tok} {Q : Value → Shared → Prop} (ht : IsTup s.heap t items)
    (hs : s.heap.IsSliceOf sl .none .none (.int (-1) tk)) (hsz : items.size ≤ sizeLine)
    (h : Q (.ref s.heap.objs.size) { s with heap := s.heap.push { cls := .type "tuple", data := .seq items.toList.reverse.toArray } }) :
    wpAny (model prog w) A (getItem (.ref t) (.ref sl)) Q E s := by
  obtain ⟨os, hos, hcs, hds⟩ := id hs
  have isS : s.TypeIs (.ref sl) "slice" := ⟨os, hos, hcs⟩
  have fits : sizeOk (.seq items.toList.reverse.toArray) := by
    show items.toList.reverse.toArray.size ≤ sizeLine
    rw [List.size_toArray, List.length_reverse, Array.length_toList]
    exact hsz
  unfold getItem
  try with_reducible refine wpAny_holding ?_
  first | refine wpAny_bind (wpAny_pure ?_) | skip
  refine wpAny_bind (wpAny_sequenceKey ht.typeIs (by decide) ?_)
  refine wpAny_bind (wpAny_callSpecial?_slot (name := Str.ofString "__getitem__") ht.typeIs PyProof.Rows.slot_tuple_getitem
    (wpAny_call_entry PyProof.Rows.slot_tuple_getitem ht.typeIs entry_tuple_getitem ?_ (args_tuple_getitem _ _)))
  show wpAny _ _ (Builtin.Tuple.tupleItemsOf (.ref t) >>= _) _ _ s
  refine wpAny_bind (tupleItemsOf_ ht ?_)
  refine wpAny_bind (wpAny_typeOf isS ?_)
  rw [if_pos (by decide)]
  have applied : ∀ (A' : Around) (E' : Value → Shared → Prop) (Q' : Int × Int × Nat → Shared → Prop), Q' ((items.size : Int) - 1, -1, items.size) s →
      wpAny (model prog w) A' (Builtin.Slice.sliceApplied (.ref sl) (pure (items.size : Int))) Q' E' s := fun A' E' Q' q => by
    unfold Builtin.Slice.sliceApplied Builtin.Slice.sliceFields
    refine wpAny_bind (wpAny_bind (wpAny_field hos hds (x := .none) rfl (wpAny_bind (wpAny_field hos hds (x := .none) rfl (wpAny_bind (wpAny_field hos hds (x := .int (-1) tk) rfl (wpAny_pure ?_)))))))
    refine wpAny_bind (slicePart_ (.int (-1) tk) ?_)
    show wpAny _ _ (if ((-1 : Int) == 0) = true then _ else _) _ _ s
    rw [if_neg (by decide)]
    refine wpAny_bind (slicePart_ .none (wpAny_bind (slicePart_ .none (wpAny_bind (wpAny_pure ?_)))))
    show wpAny _ _ (match Builtin.Slice.sliceAdjust none none (-1) (items.size : Int) with | (lo, hi) => pure (lo, (-1 : Int), Builtin.Slice.slicePlaces lo hi (-1))) _ _ s
    rw [rev_adjust]
    show wpAny _ _ (pure ((items.size : Int) - 1, (-1 : Int), Builtin.Slice.slicePlaces ((items.size : Int) - 1) (-1) (-1))) _ _ s
    rw [rev_places]
    exact wpAny_pure q
  refine wpAny_bind (applied _ _ _ ?_)
  have notw : ¬ ((((items.size : Int) - 1) == 0 && (-1 : Int) == 1 && items.size == items.size) = true) := by
    rw [show ((-1 : Int) == 1) = false by decide, Bool.and_false, Bool.false_and]
    decide
  show wpAny _ _ (if (((items.size : Int) - 1) == 0 && (-1 : Int) == 1 && items.size == items.size) = true then _ else _) _ _ s
  rw [if_neg notw, rev_pick]
  first
    | exact wpAny_bind (m := Builtin.Tuple.tupleExact _) (wpAny_newObj_type (wpAny_pure ⟨_, rfl, wpAny_pure h⟩) fits)
    | exact wpAny_bind (m := Builtin.Tuple.tupleExact _) (wpAny_newObj_type (wpAny_bind (wpAny_pure (wpAny_pure ⟨_, rfl, wpAny_pure h⟩))) fits)
    | exact wpAny_bind (wpAny_bind (m := Builtin.Tuple.tupleExact _) (wpAny_newObj_type (wpAny_pure (wpAny_pure ⟨_, rfl, wpAny_pure h⟩)) fits))
    | exact wpAny_bind (wpAny_bind (m := Builtin.Tuple.tupleExact _) (wpAny_newObj_type (wpAny_pure ⟨_, rfl, wpAny_pure h⟩) fits))
end
section
variable {X : Cx} {e : Expr} {te : TE}
def tRevT (K : PySem.W.Frag) (te : TE) : TE := fun σ H Q => te σ H fun x H1 => ∃ a xs, x = .ref a ∧ SqT K H1 a xs ∧ New H1 (.tup xs.reverse) Q
theorem pe_revT {p0 p1 p2 pos : Pos} {j : Nat} (he : PE X e te) :
    PE X (.Subscript e (.Slice none none (some (.UnaryOp .USub (.Constant (.int 1) j p0) p1)) p2) pos) (tRevT X.K te) := by
  constructor
  intro pins s σ H Q I h
  refine Subscript_ (thn (he.run pins s σ H _ I h) fun v s1 ⟨x, H1, I1, r1, a, xs, hx, hl, q⟩ => ?_)
  subst hx
  cases r1
  refine wpAny_Slice ?_
  rw [evalPart_none]
  refine wpAny_pure ?_
  refine wpAny_pure ?_
  rw [evalPart_some]
  have neg : PE X (.UnaryOp .USub (.Constant (.int 1) j p0) p1) _ := pe_un un_neg pe_int
  refine thn (neg.run pins s1 σ H1 (fun y H2 => y = .int (-1) ∧ H2 = H1) I1 ⟨1, rfl, rfl, rfl⟩) fun u s2 ⟨y, H2, I2, ry, hy, hH⟩ => ?_
  subst hy hH
  obtain ⟨t, rfl⟩ := ry
  have I4 : Inv X pins σ H2 { s2 with heap := s2.heap.push { cls := .type "slice", data := .fields #[.none, .none, .int (-1) t] } } :=
    I2.kept (t' := s2.toks) fun b ob z => Heap.get?_push_of_some _ z
  obtain ⟨its, r, ht, hz⟩ := I4.tuple hl
  have nl := r.length
  refine tail_any ht.typeIs PyProof.Rows.slot_tuple_getitem.lookup ?_ (by with_unfolding_all rfl)
  refine getItem_tuple_rev ht (Heap.IsSliceOf.new ..) (by rw [List.size_toArray] <;> omega) ?_
  refine ⟨.ref _, _, I4.laid (t' := s2.toks) (o := .tup xs.reverse) (fun b ob z => Heap.get?_push_of_some _ z) (Nat.le_refl _) ?_, rfl, q.go _ (I4.hok.fresh (Nat.le_refl _))⟩
  exact ⟨by rw [List.length_reverse]; exact hz, _, valsRev r, IsTup.new _ _⟩
end

/-! ### more rules that hand on a new object -/
section
variable {X : Cx}
def rCatTN (K : PySem.W.Frag) : R2 := fun x y H Q => ∃ a b xs ys, x = .ref a ∧ y = .ref b ∧ SqT K H a xs ∧ SqT K H b ys ∧ xs ≠ [] ∧ ys ≠ [] ∧
  xs.length + ys.length ≤ sizeLine ∧ New H (.tup (xs ++ ys)) Q
theorem op_catTN : OpR X (binaryOp .Add) (rCatTN X.K) := fun pins s σ H x y v u Q I rx ry ⟨a, b, xs, ys, h1, h2, h3, h4, h5, h6, h7, q⟩ =>
  op_catT pins s σ H x y v u Q I rx ry ⟨a, b, xs, ys, h1, h2, h3, h4, h5, h7, fun z => absurd z h6, fun _ => q.go⟩
def rCatLN : R2 := fun x y H Q => ∃ l b xs zs, x = .ref l ∧ y = .ref b ∧ H l = some (.lst xs) ∧ H b = some (.lst zs) ∧ xs.length + zs.length ≤ sizeLine ∧ New H (.lst (xs ++ zs)) Q
theorem op_catLN : OpR X (binaryOp .Add) rCatLN := fun pins s σ H x y v u Q I rx ry ⟨l, b, xs, zs, h1, h2, h3, h4, h5, q⟩ =>
  op_cat pins s σ H x y v u Q I rx ry ⟨l, b, xs, zs, h1, h2, h3, h4, h5, q.go⟩
theorem call_tuple_ofN : CallR X (.type "tuple") (fun xs H Q => ∃ p ys, xs = [.ref p] ∧ SqL X.K H p ys ∧ New H (.tup ys) Q) :=
  fun pins s σ H xs us Q I r ⟨p, ys, h1, h2, q⟩ => call_tuple_of pins s σ H xs us Q I r ⟨p, ys, h1, .inl ⟨h2, q.go⟩⟩
end
end Cl

namespace Cl
open PySem PySem.Spec PyProof.Rows L2
/-! ### what two lines have in common: the mathematics -/
abbrev Pt := Int × Int
abbrev Ln := Pt × Pt
abbrev S3 := Int × Int × Int
def trn (p q : Pt) : Int := p.1 * q.2 - p.2 * q.1
def less (p q : Pt) : Pt := (p.1 - q.1, p.2 - q.2)
def sp3 (n m d : Int) : S3 := (n / spP n m d, m / spP n m d, d / spP n m d)
theorem sp3_scale {n m d t : Int} (ht : 0 < t) (hd : 0 < d) : sp3 (n * t) (m * t) (d * t) = sp3 n m d := by
  have hdt : 0 < d * t := Int.mul_pos hd ht
  have e : spP (n * t) (m * t) (d * t) = spP n m d * t := by
    unfold spP gpar
    rw [if_neg (by omega), if_neg (by omega), Int.gcd_mul_right]
    have c : (((Int.gcd n m * t.natAbs : Nat)) : Int) = (Int.gcd n m : Nat) * t := by
      rw [Int.natCast_mul, Int.natAbs_of_nonneg (by omega)]
    rw [c, Int.gcd_mul_right, Int.natCast_mul, Int.natAbs_of_nonneg (by omega)]
  unfold sp3
  rw [e, Int.mul_ediv_mul_of_pos_left _ _ ht, Int.mul_ediv_mul_of_pos_left _ _ ht, Int.mul_ediv_mul_of_pos_left _ _ ht]
/-- the shares and their bottom, the bottom above nought -/
def kfs (l r : Ln) : Int := if trn (less l.2 l.1) (less r.2 r.1) < 0 then -1 else 1
def klm (l r : Ln) : Int × Int × Int :=
  (trn (less r.1 l.1) (less r.2 r.1) * kfs l r, trn (less r.1 l.1) (less l.2 l.1) * kfs l r, trn (less l.2 l.1) (less r.2 r.1) * kfs l r)
def acr (l r : Ln) : List S3 :=
  let t := klm l r
  if (0 ≤ t.1 ∧ t.1 ≤ t.2.2) ∧ (0 ≤ t.2.1 ∧ t.2.1 ≤ t.2.2) then
    [sp3 (t.2.2 * l.1.1 + t.1 * (l.2.1 - l.1.1)) (t.2.2 * l.1.2 + t.1 * (l.2.2 - l.1.2)) t.2.2] else []
def lo (l r : Ln) : Pt := mx (mn l.1 l.2) (mn r.1 r.2)
def hi (l r : Ln) : Pt := mn (mx l.1 l.2) (mx r.1 r.2)
def alo (l r : Ln) : List S3 :=
  if llt (hi l r) (lo l r) then [] else if lo l r = hi l r then [((lo l r).1, (lo l r).2, 1)] else [((lo l r).1, (lo l r).2, 1), ((hi l r).1, (hi l r).2, 1)]
def cmn (l r : Ln) : List S3 :=
  if trn (less l.2 l.1) (less r.2 r.1) ≠ 0 then acr l r else if trn (less l.2 l.1) (less r.1 l.1) ≠ 0 then [] else alo l r
def rev (l : Ln) : Ln := (l.2, l.1)

theorem trn_neg (p q : Pt) : trn p q = -trn q p := by
  unfold trn; grind
theorem mn_comm (p q : Pt) : mn p q = mn q p := by
  obtain ⟨a, b⟩ := p
  obtain ⟨c, d⟩ := q
  unfold mn llt
  by_cases h1 : c < a ∨ (c = a ∧ d < b) <;> by_cases h2 : a < c ∨ (a = c ∧ b < d) <;> simp [h1, h2] <;> omega
theorem mx_comm (p q : Pt) : mx p q = mx q p := by
  obtain ⟨a, b⟩ := p
  obtain ⟨c, d⟩ := q
  unfold mx llt
  by_cases h1 : c < a ∨ (c = a ∧ d < b) <;> by_cases h2 : a < c ∨ (a = c ∧ b < d) <;> simp [h1, h2] <;> omega
theorem lo_swap (l r : Ln) : lo r l = lo l r := mx_comm ..
theorem hi_swap (l r : Ln) : hi r l = hi l r := mn_comm ..
theorem alo_swap (l r : Ln) : alo r l = alo l r := by unfold alo; rw [lo_swap, hi_swap]
theorem alo_rev (l r : Ln) : alo (rev l) r = alo l r := by
  unfold alo lo hi rev
  rw [mn_comm l.2, mx_comm l.2]

theorem klm_swap (l r : Ln) (h : trn (less l.2 l.1) (less r.2 r.1) ≠ 0) : klm r l = ((klm l r).2.1, (klm l r).1, (klm l r).2.2) := by
  have e := trn_neg (less r.2 r.1) (less l.2 l.1)
  have ek : kfs r l = -kfs l r := by
    unfold kfs
    rw [e]
    split <;> split <;> omega
  unfold klm
  rw [ek]
  unfold trn less
  refine Prod.ext ?_ (Prod.ext ?_ ?_) <;> simp only <;> grind
theorem klm_pos (l r : Ln) (h : trn (less l.2 l.1) (less r.2 r.1) ≠ 0) : 0 < (klm l r).2.2 := by
  show 0 < trn (less l.2 l.1) (less r.2 r.1) * kfs l r
  unfold kfs
  split <;> omega
theorem acr_swap (l r : Ln) (h : trn (less l.2 l.1) (less r.2 r.1) ≠ 0) : acr r l = acr l r := by
  unfold acr
  rw [klm_swap l r h]
  simp only
  have e1 : (klm l r).2.2 * r.1.1 + (klm l r).2.1 * (r.2.1 - r.1.1) = (klm l r).2.2 * l.1.1 + (klm l r).1 * (l.2.1 - l.1.1) := by
    unfold klm trn less
    simp only
    grind
  have e2 : (klm l r).2.2 * r.1.2 + (klm l r).2.1 * (r.2.2 - r.1.2) = (klm l r).2.2 * l.1.2 + (klm l r).1 * (l.2.2 - l.1.2) := by
    unfold klm trn less
    simp only
    grind
  rw [e1, e2]
  split <;> split <;> first | rfl | (exfalso; omega)
theorem klm_rev (l r : Ln) (h : trn (less l.2 l.1) (less r.2 r.1) ≠ 0) : klm (rev l) r = ((klm l r).2.2 - (klm l r).1, (klm l r).2.1, (klm l r).2.2) := by
  have e : trn (less l.1 l.2) (less r.2 r.1) = -trn (less l.2 l.1) (less r.2 r.1) := by unfold trn less; grind
  have ek : kfs (rev l) r = -kfs l r := by
    unfold kfs rev
    simp only
    rw [e]
    split <;> split <;> omega
  unfold klm
  rw [ek]
  unfold trn less rev
  refine Prod.ext ?_ (Prod.ext ?_ ?_) <;> simp only <;> grind
theorem acr_rev (l r : Ln) (h : trn (less l.2 l.1) (less r.2 r.1) ≠ 0) : acr (rev l) r = acr l r := by
  unfold acr
  rw [klm_rev l r h]
  simp only
  have e1 : (klm l r).2.2 * (rev l).1.1 + ((klm l r).2.2 - (klm l r).1) * ((rev l).2.1 - (rev l).1.1) = (klm l r).2.2 * l.1.1 + (klm l r).1 * (l.2.1 - l.1.1) := by
    unfold rev
    grind
  have e2 : (klm l r).2.2 * (rev l).1.2 + ((klm l r).2.2 - (klm l r).1) * ((rev l).2.2 - (rev l).1.2) = (klm l r).2.2 * l.1.2 + (klm l r).1 * (l.2.2 - l.1.2) := by
    unfold rev
    grind
  rw [e1, e2]
  split <;> split <;> first | rfl | (exfalso; omega)
theorem cmn_rev (l r : Ln) : cmn (rev l) r = cmn l r := by
  have e : trn (less l.1 l.2) (less r.2 r.1) = -trn (less l.2 l.1) (less r.2 r.1) := by unfold trn less; grind
  have e2 : trn (less l.1 l.2) (less r.1 l.2) = -trn (less l.2 l.1) (less r.1 l.1) := by unfold trn less; grind
  unfold cmn
  show (if trn (less l.1 l.2) (less r.2 r.1) ≠ 0 then acr (rev l) r else if trn (less l.1 l.2) (less r.1 l.2) ≠ 0 then [] else alo (rev l) r) = _
  rw [e, e2, alo_rev]
  by_cases h : trn (less l.2 l.1) (less r.2 r.1) = 0
  · rw [h]; by_cases h2 : trn (less l.2 l.1) (less r.1 l.1) = 0 <;> simp [h2]
  · rw [if_pos (by omega), if_pos h, acr_rev l r h]
theorem par (w u f : Pt) (hw : w ≠ (0, 0)) (h1 : trn w u = 0) (h2 : trn w f = 0) : trn u f = 0 := by
  obtain ⟨w1, w2⟩ := w
  obtain ⟨u1, u2⟩ := u
  obtain ⟨f1, f2⟩ := f
  unfold trn at *
  simp only at *
  by_cases h : w1 = 0
  · have h0 : w2 ≠ 0 := fun z => hw (by rw [h, z])
    have : w2 * (u1 * f2 - u2 * f1) = 0 := by grind
    rcases Int.mul_eq_zero.mp this with z | z
    · exact absurd z h0
    · exact z
  · have : w1 * (u1 * f2 - u2 * f1) = 0 := by grind
    rcases Int.mul_eq_zero.mp this with z | z
    · exact absurd z h
    · exact z
theorem less_ne {p q : Pt} (h : q ≠ p) : less p q ≠ (0, 0) := fun z => h (by
  obtain ⟨a, b⟩ := p
  obtain ⟨c, d⟩ := q
  unfold less at z
  injection z with z1 z2
  simp only at z1 z2
  exact Prod.ext (by simp only; omega) (by simp only; omega))
theorem cmn_swap (l r : Ln) (hl : l.1 ≠ l.2) (hr : r.1 ≠ r.2) : cmn r l = cmn l r := by
  unfold cmn
  have e := trn_neg (less r.2 r.1) (less l.2 l.1)
  by_cases h : trn (less l.2 l.1) (less r.2 r.1) = 0
  · rw [e, h, alo_swap]
    have e3 : trn (less r.2 r.1) (less l.1 r.1) = 0 ↔ trn (less l.2 l.1) (less r.1 l.1) = 0 := by
      have n1 : ∀ p : Pt, trn p (less l.1 r.1) = -trn p (less r.1 l.1) := fun p => by unfold trn less; grind
      rw [n1]
      constructor
      · intro z
        exact par _ _ _ (less_ne hr) (by rw [e, h]; rfl) (by omega)
      · intro z
        have := par _ _ _ (less_ne hl) h z
        omega
    by_cases h2 : trn (less l.2 l.1) (less r.1 l.1) = 0
    · simp [h2, e3.mpr h2]
    · simp [h2, show ¬ trn (less r.2 r.1) (less l.1 r.1) = 0 from fun z => h2 (e3.mp z)]
  · rw [if_pos (by omega), if_pos h, acr_swap l r h]
theorem cmn_rev2 (l r : Ln) (hl : l.1 ≠ l.2) (hr : r.1 ≠ r.2) : cmn l (rev r) = cmn l r := by
  rw [← cmn_swap l (rev r) hl (fun z => hr z.symm), cmn_rev, cmn_swap l r hl hr]

/-! ### along one straight line: the first and the last of what lies in both -/
def ple (p q : Pt) : Prop := llt q p = false
theorem ple_iff {p q : Pt} : ple p q ↔ ¬ (q.1 < p.1 ∨ (q.1 = p.1 ∧ q.2 < p.2)) := by
  unfold ple llt
  exact decide_eq_false_iff_not
theorem ple_refl (p : Pt) : ple p p := ple_iff.mpr (by omega)
theorem ple_trans {p q r : Pt} (h1 : ple p q) (h2 : ple q r) : ple p r := by
  rw [ple_iff] at *
  omega
theorem ple_antisymm {p q : Pt} (h1 : ple p q) (h2 : ple q p) : p = q := by
  rw [ple_iff] at *
  exact Prod.ext (by omega) (by omega)
theorem ple_of {p q : Pt} (h : llt p q = true) : ple p q := by
  have h := of_decide_eq_true h
  rw [ple_iff]
  omega
theorem mn_or (p q : Pt) : (mn p q = p ∨ mn p q = q) ∧ ple (mn p q) p ∧ ple (mn p q) q := by
  unfold mn
  cases h : llt q p with
  | true => exact ⟨.inr rfl, ple_of h, ple_refl _⟩
  | false => exact ⟨.inl rfl, ple_refl _, h⟩
theorem mx_or (p q : Pt) : (mx p q = p ∨ mx p q = q) ∧ ple p (mx p q) ∧ ple q (mx p q) := by
  unfold mx
  cases h : llt p q with
  | true => exact ⟨.inr rfl, ple_of h, ple_refl _⟩
  | false => exact ⟨.inl rfl, ple_refl _, h⟩
def within (p : Pt) (r : Ln) : Prop := ple (mn r.1 r.2) p ∧ ple p (mx r.1 r.2)
def inBoth (l r : Ln) (p : Pt) : Prop := ((p = l.1 ∨ p = l.2) ∧ within p r) ∨ ((p = r.1 ∨ p = r.2) ∧ within p l)
theorem self_in {p : Pt} {l : Ln} (h : p = l.1 ∨ p = l.2) : within p l := by
  obtain ⟨_, a2, a3⟩ := mn_or l.1 l.2
  obtain ⟨_, b2, b3⟩ := mx_or l.1 l.2
  rcases h with rfl | rfl
  · exact ⟨a2, b2⟩
  · exact ⟨a3, b3⟩
theorem inBoth_two {l r : Ln} {p : Pt} (h : inBoth l r p) : within p l ∧ within p r := by
  rcases h with ⟨h1, h2⟩ | ⟨h1, h2⟩
  · exact ⟨self_in h1, h2⟩
  · exact ⟨h2, self_in h1⟩
theorem inBoth_mid {l r : Ln} {p : Pt} (h : inBoth l r p) : ple (lo l r) p ∧ ple p (hi l r) := by
  obtain ⟨⟨a1, a2⟩, b1, b2⟩ := inBoth_two h
  unfold lo hi
  constructor
  · rcases (mx_or (mn l.1 l.2) (mn r.1 r.2)).1 with z | z <;> rw [z] <;> assumption
  · rcases (mn_or (mx l.1 l.2) (mx r.1 r.2)).1 with z | z <;> rw [z] <;> assumption
theorem lo_in {l r : Ln} (h : ple (lo l r) (hi l r)) : inBoth l r (lo l r) := by
  have hl : ple (lo l r) (mx l.1 l.2) := ple_trans h (mn_or _ _).2.1
  have hr : ple (lo l r) (mx r.1 r.2) := ple_trans h (mn_or _ _).2.2
  obtain ⟨c, d1, d2⟩ := mx_or (mn l.1 l.2) (mn r.1 r.2)
  rcases c with z | z
  · refine .inl ⟨?_, d2, hr⟩
    show lo l r = _ ∨ lo l r = _
    unfold lo; rw [z]; exact (mn_or _ _).1
  · refine .inr ⟨?_, d1, hl⟩
    show lo l r = _ ∨ lo l r = _
    unfold lo; rw [z]; exact (mn_or _ _).1
theorem hi_in {l r : Ln} (h : ple (lo l r) (hi l r)) : inBoth l r (hi l r) := by
  have hl : ple (mn l.1 l.2) (hi l r) := ple_trans (mx_or _ _).2.1 h
  have hr : ple (mn r.1 r.2) (hi l r) := ple_trans (mx_or _ _).2.2 h
  obtain ⟨c, d1, d2⟩ := mn_or (mx l.1 l.2) (mx r.1 r.2)
  rcases c with z | z
  · refine .inl ⟨?_, hr, d2⟩
    show hi l r = _ ∨ hi l r = _
    unfold hi; rw [z]; exact (mx_or _ _).1
  · refine .inr ⟨?_, hl, d1⟩
    show hi l r = _ ∨ hi l r = _
    unfold hi; rw [z]; exact (mx_or _ _).1
def one3 (p : Pt) : S3 := (p.1, p.2, 1)
theorem along_due (l r : Ln) (T : List Pt) (hs : T.Pairwise ple) (nd : T.Nodup) (mem : ∀ p, p ∈ T ↔ inBoth l r p) :
    (T.take 1 ++ (T.drop 1).drop ((T.drop 1).length - 1)).map one3 = alo l r := by
  unfold alo
  cases hh : llt (hi l r) (lo l r) with
  | true =>
    have : T = [] := by
      refine List.eq_nil_iff_forall_not_mem.mpr fun p hp => ?_
      obtain ⟨a, b⟩ := inBoth_mid ((mem p).mp hp)
      have z : ple (lo l r) (hi l r) := ple_trans a b
      unfold ple at z
      rw [hh] at z
      cases z
    subst this
    rfl
  | false =>
    have hle : ple (lo l r) (hi l r) := hh
    have m1 := (mem _).mpr (lo_in hle)
    have m2 := (mem _).mpr (hi_in hle)
    cases T with
    | nil => cases m1
    | cons a t =>
      obtain ⟨p1, p2⟩ := List.pairwise_cons.mp hs
      obtain ⟨n1, n2⟩ := List.nodup_cons.mp nd
      have ha : a = lo l r := by
        have b := (inBoth_mid ((mem a).mp List.mem_cons_self)).1
        rcases List.mem_cons.mp m1 with z | z
        · exact z.symm
        · exact ple_antisymm (p1 _ z) b
      subst ha
      rw [if_neg (by decide)]
      rcases List.eq_nil_or_concat t with rfl | ⟨t', b, rfl⟩
      · have : hi l r = lo l r := by simpa using m2
        rw [if_pos this.symm]
        rfl
      · have hb : b = hi l r := by
          have c := (inBoth_mid ((mem b).mp (List.mem_cons_of_mem _ (by simp)))).2
          refine ple_antisymm c ?_
          rcases List.mem_cons.mp m2 with z | z
          · rw [z]; exact p1 b (by simp)
          · rcases List.mem_append.mp (by simpa using z : hi l r ∈ t' ++ [b]) with z | z
            · rw [List.concat_eq_append] at p2
              exact (List.pairwise_append.mp p2).2.2 _ z _ (by simp)
            · rw [List.mem_singleton.mp z]; exact ple_refl _
        have ne : lo l r ≠ hi l r := fun z => n1 (by rw [z, ← hb]; simp)
        rw [if_neg ne]
        subst hb
        simp [one3]
end Cl

namespace Cl
open PySem PySem.Spec PyProof.Rows L2
/-! ### lines, spots and tuples of them where they stand -/
def AtL (K : PySem.W.Frag) (H : Hp) (v : V) (l : Ln) : Prop := ∃ a u w, v = .ref a ∧ SqT K H a [u, w] ∧ At2 K H u l.1 ∧ At2 K H w l.2
def At3 (K : PySem.W.Frag) (H : Hp) (v : V) (s : S3) : Prop := ∃ a, v = .ref a ∧ SqT K H a [.int s.1, .int s.2.1, .int s.2.2]
inductive AllAt {α : Type} (R : V → α → Prop) : List V → List α → Prop
  | nil : AllAt R [] []
  | cons {v : V} {x : α} {vs : List V} {xs : List α} : R v x → AllAt R vs xs → AllAt R (v :: vs) (x :: xs)
def AtS (K : PySem.W.Frag) (H : Hp) (v : V) (ss : List S3) : Prop := ∃ a vs, v = .ref a ∧ SqT K H a vs ∧ AllAt (At3 K H) vs ss
def AtP (K : PySem.W.Frag) (H : Hp) (v : V) (ps : List Pt) : Prop := ∃ a vs, v = .ref a ∧ SqT K H a vs ∧ AllAt (At2 K H) vs ps
def BdP (p : Pt) : Prop := (-(2 ^ 60) < p.1 ∧ p.1 < 2 ^ 60) ∧ (-(2 ^ 60) < p.2 ∧ p.2 < 2 ^ 60)
def BdC (p : Pt) : Prop := (-(2 ^ 40) < p.1 ∧ p.1 < 2 ^ 40) ∧ (-(2 ^ 40) < p.2 ∧ p.2 < 2 ^ 40)
def BdL (l : Ln) : Prop := BdC l.1 ∧ BdC l.2
section
variable {K : PySem.W.Frag} {H H' : Hp} {v : V}
theorem AtL.same {l : Ln} (h : AtL K H v l) (s : Same H H') : AtL K H' v l := by
  obtain ⟨a, u, w, rfl, h1, h2, h3⟩ := h
  exact ⟨a, u, w, rfl, seT s h1, h2.same s, h3.same s⟩
theorem At3.same {t : S3} (h : At3 K H v t) (s : Same H H') : At3 K H' v t := by
  obtain ⟨a, rfl, h⟩ := h
  exact ⟨a, rfl, seT s h⟩
theorem AllAt.map {α : Type} {R R' : V → α → Prop} (f : ∀ v x, R v x → R' v x) : ∀ {vs : List V} {xs : List α}, AllAt R vs xs → AllAt R' vs xs
  | _, _, .nil => .nil
  | _, _, .cons h t => .cons (f _ _ h) (AllAt.map f t)
theorem AllAt.length {α : Type} {R : V → α → Prop} : ∀ {vs : List V} {xs : List α}, AllAt R vs xs → vs.length = xs.length
  | _, _, .nil => rfl
  | _, _, .cons _ t => by rw [List.length_cons, List.length_cons, t.length]
theorem AllAt.get {α : Type} {R : V → α → Prop} : ∀ {vs : List V} {xs : List α} {i : Nat} {v : V}, AllAt R vs xs → vs[i]? = some v → ∃ x, xs[i]? = some x ∧ R v x
  | _, _, 0, v, .cons h t, e => by cases e; exact ⟨_, rfl, h⟩
  | _, _, i + 1, v, .cons h t, e => AllAt.get t (i := i) e
theorem AllAt.app {α : Type} {R : V → α → Prop} : ∀ {vs ws : List V} {xs ys : List α}, AllAt R vs xs → AllAt R ws ys → AllAt R (vs ++ ws) (xs ++ ys)
  | _, _, _, _, .nil, h => h
  | _, _, _, _, .cons a t, h => .cons a (AllAt.app t h)
theorem AtS.same {ss : List S3} (h : AtS K H v ss) (s : Same H H') : AtS K H' v ss := by
  obtain ⟨a, vs, rfl, h1, h2⟩ := h
  exact ⟨a, vs, rfl, seT s h1, h2.map fun _ _ z => z.same s⟩
theorem AtP.same {ps : List Pt} (h : AtP K H v ps) (s : Same H H') : AtP K H' v ps := by
  obtain ⟨a, vs, rfl, h1, h2⟩ := h
  exact ⟨a, vs, rfl, seT s h1, h2.map fun _ _ z => z.same s⟩
def d3 (s : S3) : PyData := .tuple [.int s.1, .int s.2.1, .int s.2.2]
theorem AtS.dp {ss : List S3} (h : AtS K H v ss) : Dp K H v (.tuple (ss.map d3)) := by
  obtain ⟨a, vs, rfl, h1, h2⟩ := h
  refine .tup h1 ?_
  clear h1
  induction h2 with
  | nil => exact .nil
  | cons h t ih =>
    obtain ⟨b, rfl, h⟩ := h
    exact .cons (.tup h (.cons (.int _) (.cons (.int _) (.cons (.int _) .nil)))) ih
theorem AtL.rev {l : Ln} {a : Addr} {xs : List V} (h : AtL K H (.ref a) l) (h2 : SqT K H a xs) : True := trivial
end
theorem bd_less {p q : Pt} (h1 : BdC p) (h2 : BdC q) : BdP (less p q) := by
  unfold BdP BdC less at *
  simp only at *
  omega
theorem BdL.rev {l : Ln} (h : BdL l) : BdL (rev l) := ⟨h.2, h.1⟩
/-! ### promises of the program's defs -/
def spStep (K : PySem.W.Frag) : Sp := fun vs H Q _ => ∃ v l, vs = [v] ∧ AtL K H v l ∧ ∀ w H', Same H H' → At2 K H' w (less l.2 l.1) → Q w H'
def spTurn (K : PySem.W.Frag) : Sp := fun vs H Q _ => ∃ u v p q, vs = [u, v] ∧ At2 K H u p ∧ At2 K H v q ∧ BdP p ∧ Q (.int (trn p q)) H
def spSide (K : PySem.W.Frag) : Sp := fun vs H Q _ => ∃ u v l p, vs = [u, v] ∧ AtL K H u l ∧ At2 K H v p ∧ BdL l ∧ ∀ H', Same H H' → Q (.int (trn (less l.2 l.1) (less p l.1))) H'
def spSpotAt (K : PySem.W.Frag) : Sp := fun vs H Q _ => ∃ v l k m, vs = [v, .int k, .int m] ∧ AtL K H v l ∧ BdL l ∧ m ≠ 0 ∧ m.natAbs < 2 ^ 200 ∧
  ∀ w H', Same H H' → At3 K H' w (sp3 (m * l.1.1 + k * (l.2.1 - l.1.1)) (m * l.1.2 + k * (l.2.2 - l.1.2)) m) → Q w H'
def spTwo (K : PySem.W.Frag) (f : Ln → Ln → List S3) (C : Ln → Ln → Prop) : Sp := fun vs H Q _ => ∃ u v l r, vs = [u, v] ∧ AtL K H u l ∧ AtL K H v r ∧ BdL l ∧ BdL r ∧ C l r ∧
  ∀ w H', Same H H' → AtS K H' w (f l r) → Q w H'
theorem trn_lt {p q : Pt} (hp : BdP p) (hq : BdP q) : (trn p q).natAbs < 2 ^ 122 := by
  unfold BdP at *
  unfold trn
  have b : ∀ a b : Int, -(2 ^ 60) < a → a < 2 ^ 60 → -(2 ^ 60) < b → b < 2 ^ 60 → (a * b).natAbs < 2 ^ 120 := fun a b h1 h2 h3 h4 => wide_lt (a := 60) (b := 60) (by omega) (by omega)
  have b1 := b p.1 q.2 (by omega) (by omega) (by omega) (by omega)
  have b2 := b p.2 q.1 (by omega) (by omega) (by omega) (by omega)
  omega

section
variable {K : PySem.W.Frag} {H H' : Hp} {v : V} {d l : Addr}
theorem stT {a : Addr} {xs : List V} (S : Step d l H H') (D : Deck H d l) (h : SqT K H a xs) : SqT K H' a xs := by
  obtain ⟨ns, s, c, h1, h2, h3⟩ := D.ex
  rcases h with (h | ⟨o, h⟩) | h
  · exact .inl (.inl (S.tupH D h))
  · exact .inl (.inr ⟨o, S.at (ne_of h h1 (by intro z; cases z)) (ne_of h h2 (by intro z; cases z)) h⟩)
  · exact .inr h
theorem At2.step {p : Pt} (h : At2 K H v p) (S : Step d l H H') (D : Deck H d l) : At2 K H' v p := by
  obtain ⟨a, rfl, h⟩ := h
  exact ⟨a, rfl, stT S D h⟩
theorem AtL.step {r : Ln} (h : AtL K H v r) (S : Step d l H H') (D : Deck H d l) : AtL K H' v r := by
  obtain ⟨a, u, w, rfl, h1, h2, h3⟩ := h
  exact ⟨a, u, w, rfl, stT S D h1, h2.step S D, h3.step S D⟩
end
def BdN (B : Int) (p : Pt) : Prop := (-B ≤ p.1 ∧ p.1 ≤ B) ∧ (-B ≤ p.2 ∧ p.2 ≤ B)
def spUnlike (K : PySem.W.Frag) : Sp := fun vs H Q _ => ∃ u v p q, vs = [u, v] ∧ At2 K H u p ∧ At2 K H v q ∧
  ∀ w H' l, Same H H' → AtL K H' w l → l.1 = p → l.1 ≠ l.2 → (l.2 = q ∨ l.2 = (p.1 + 1, p.2)) → Q w H'
def spLess (K : PySem.W.Frag) : Sp := fun vs H Q _ => ∃ u v p q, vs = [u, v] ∧ At2 K H u p ∧ At2 K H v q ∧ ∀ w H', Same H H' → At2 K H' w (less p q) → Q w H'
def spLowest (K : PySem.W.Frag) : Sp := fun vs H Q _ => ∃ n m d : Int, vs = [.int n, .int m, .int d] ∧ 0 < d ∧ d.natAbs < 2 ^ 200 ∧ ∀ w H', Same H H' → At3 K H' w (sp3 n m d) → Q w H'
def spRight (K : PySem.W.Frag) : Sp := fun vs H Q _ => ∃ u v l r, vs = [u, v] ∧ AtL K H u l ∧ AtL K H v r ∧ BdL l ∧ BdL r ∧ l.1 ≠ l.2 ∧ r.1 ≠ r.2 ∧ ∀ H', Same H H' → Q (.bl true) H'
theorem gcd_fmod (a b : Int) (h : b ≠ 0) : Int.gcd b (a.fmod b) = Int.gcd a b := by
  have e : a.fmod b = a - b * a.fdiv b := Int.fmod_def a b
  rw [e, Int.gcd_comm a b, Int.sub_eq_add_neg, ← Int.mul_neg, Int.gcd_add_mul_left_right]
theorem fmod_small (a b : Int) (h : b ≠ 0) : (a.fmod b).natAbs < b.natAbs := by
  rcases Int.lt_or_gt_of_ne h with hb | hb
  · have e1 : (-a).fmod (-b) = -(a.fmod b) := Int.neg_fmod_neg ..
    have h1 := Int.fmod_nonneg_of_pos (-a) (show 0 < -b by omega)
    have h2 := Int.fmod_lt_of_pos (-a) (show 0 < -b by omega)
    omega
  · have h1 := Int.fmod_nonneg_of_pos a hb
    have h2 := Int.fmod_lt_of_pos a hb
    omega

/-! ### what a comprehension picks of two points -/
structure Sel (K : PySem.W.Frag) (H0 : Hp) (pts : List Pt) (r : Ln) (i : Nat) (ks : List (Addr × List Int)) : Prop where
  tup : ∀ q ∈ ks, SqT K H0 q.1 (q.2.map V.int) ∧ q.2.length = 2
  len : ks.length ≤ i
  mem : ∀ x, (∃ q ∈ ks, pr q = x) ↔ ∃ j, j < i ∧ pts[j]? = some x ∧ within x r
section
variable {K : PySem.W.Frag} {H0 : Hp} {pts : List Pt} {r : Ln} {i : Nat} {ks : List (Addr × List Int)} {pt : Pt} {c : Addr}
theorem Sel.nil : Sel K H0 pts r 0 [] := ⟨fun q h => (nomatch h), Nat.le_refl _, fun x => ⟨fun ⟨q, h, _⟩ => (nomatch h), fun ⟨j, h, _⟩ => absurd h (Nat.not_lt_zero _)⟩⟩
theorem Sel.keep (S : Sel K H0 pts r i ks) (h : pts[i]? = some pt) (w : within pt r) (hc : SqT K H0 c [.int pt.1, .int pt.2]) :
    Sel K H0 pts r (i + 1) (ks ++ [(c, [pt.1, pt.2])]) := by
  refine ⟨fun q hq => ?_, by rw [List.length_append]; exact Nat.add_le_add_right S.len 1, fun x => ⟨?_, ?_⟩⟩
  · rcases List.mem_append.mp hq with z | z
    · exact S.tup q z
    · rw [List.mem_singleton.mp z]; exact ⟨hc, rfl⟩
  · rintro ⟨q, hq, e⟩
    rcases List.mem_append.mp hq with z | z
    · obtain ⟨j, a, b⟩ := (S.mem x).mp ⟨q, z, e⟩
      exact ⟨j, by omega, b⟩
    · rw [List.mem_singleton.mp z] at e
      subst e
      exact ⟨i, by omega, h, w⟩
  · rintro ⟨j, hj, a, b⟩
    by_cases e : j = i
    · subst e
      rw [h] at a
      cases a
      exact ⟨_, List.mem_append.mpr (.inr (List.mem_singleton.mpr rfl)), rfl⟩
    · obtain ⟨q, z, e2⟩ := (S.mem x).mpr ⟨j, by omega, a, b⟩
      exact ⟨q, List.mem_append.mpr (.inl z), e2⟩
theorem Sel.drop (S : Sel K H0 pts r i ks) (h : pts[i]? = some pt) (w : ¬ within pt r) : Sel K H0 pts r (i + 1) ks := by
  refine ⟨S.tup, Nat.le_succ_of_le S.len, fun x => ⟨fun z => ?_, ?_⟩⟩
  · obtain ⟨j, a, b⟩ := (S.mem x).mp z
    exact ⟨j, by omega, b⟩
  · rintro ⟨j, hj, a, b⟩
    by_cases e : j = i
    · subst e
      rw [h] at a
      cases a
      exact absurd b w
    · exact (S.mem x).mpr ⟨j, by omega, a, b⟩
theorem Sel.two {p q : Pt} (S : Sel K H0 [p, q] r 2 ks) (x : Pt) : (∃ q ∈ ks, pr q = x) ↔ (x = p ∨ x = q) ∧ within x r := by
  rw [S.mem x]
  constructor
  · rintro ⟨j, hj, a, b⟩
    match j, hj, a with
    | 0, _, a => cases a; exact ⟨.inl rfl, b⟩
    | 1, _, a => cases a; exact ⟨.inr rfl, b⟩
  · rintro ⟨a | a, b⟩
    · exact ⟨0, by omega, by rw [a]; rfl, b⟩
    · exact ⟨1, by omega, by rw [a]; rfl, b⟩
end
theorem pr_ints {q : Addr × List Int} (h : q.2.length = 2) : q.2.map V.int = [.int (pr q).1, .int (pr q).2] := by
  rw [pr_of h]
  rfl
theorem nodup_pr {L : List (Addr × List Int)} (h : ∀ q ∈ L, q.2.length = 2) (nd : (L.map (·.2)).Nodup) : (L.map pr).Nodup := by
  have e : ∀ l : List (Addr × List Int), (∀ q ∈ l, q.2.length = 2) → l.map (·.2) = (l.map pr).map fun p : Pt => [p.1, p.2] := by
    intro l
    induction l with
    | nil => intro _; rfl
    | cons q l ih =>
      intro h
      rw [List.map_cons, List.map_cons, List.map_cons, ih fun r hr => h r (List.mem_cons_of_mem _ hr), pr_of (h q List.mem_cons_self)]
  rw [e L h] at nd
  exact List.Pairwise.of_map _ (fun _ _ hne z => hne (by rw [z])) nd
theorem cut_first (xs : List V) : cutV xs none (some 1) = xs.take 1 := by
  unfold cutV
  rw [HT.sIx_none, show HT.sIx xs.length xs.length (some 1) = min 1 xs.length from HT.sIx_nat _ _ 1, List.drop_zero, Nat.sub_zero]
  cases xs with
  | nil => rfl
  | cons x r => rw [List.length_cons, Nat.min_eq_left (by omega)]
theorem cut_rest (xs : List V) : cutV xs (some 1) none = xs.drop 1 := by
  unfold cutV
  rw [HT.sIx_none, show HT.sIx xs.length 0 (some 1) = min 1 xs.length from HT.sIx_nat _ _ 1]
  cases xs with
  | nil => rfl
  | cons x r =>
    rw [List.length_cons, Nat.min_eq_left (by omega)]
    show List.take (r.length + 1 - 1) r = r
    rw [Nat.add_sub_cancel, List.take_length]
theorem cut_last (xs : List V) : cutV xs (some (-1)) none = xs.drop (xs.length - 1) := by
  unfold cutV
  have e : HT.sIx xs.length 0 (some (-1)) = xs.length - 1 := by
    show (if (-1 : Int) < 0 then ((-1 : Int) + (xs.length : Int)).toNat else min (-1 : Int).toNat xs.length) = _
    rw [if_pos (by decide)]
    omega
  rw [HT.sIx_none, e]
  exact List.take_of_length_le (by rw [List.length_drop]; omega)

/-! ### the same rules within a comprehension, the written part named -/
section
variable {X : Cx} {K : PySem.W.Frag}
theorem op_le2k (hK : X.K = K) (hu : X.A.units + 64 < cLine) : OpR X (compareOp .LtE) (rCmp2 K fun p q => !llt q p) := hK ▸ op_le2 hu
theorem op_gt2k (hK : X.K = K) (hu : X.A.units + 64 < cLine) : OpR X (compareOp .Gt) (rCmp2 K fun p q => llt q p) := hK ▸ op_gt2 hu
theorem cr_min1k (hK : X.K = K) (hc : X.calm = true) (hu : X.A.units + 64 < cLine) : CallR X (.builtin "min") (rBest1 K mn) := hK ▸ cr_min1 hc hu
theorem cr_max1k (hK : X.K = K) (hc : X.calm = true) (hu : X.A.units + 64 < cLine) : CallR X (.builtin "max") (rBest1 K mx) := hK ▸ cr_max1 hc hu
theorem op_catTNk (hK : X.K = K) : OpR X (binaryOp .Add) (rCatTN K) := hK ▸ op_catTN
theorem ix_tupk (hK : X.K = K) : IxR X (rIxT K) := hK ▸ ix_tup
theorem ix_listk (hK : X.K = K) : IxR X (rIxL K) := hK ▸ ix_list
theorem op_neDk (hK : X.K = K) (hu : X.A.units + 64 < cLine) : OpR X (compareOp .NotEq) (rNeD K) := hK ▸ op_neD hu
theorem op_eqDk (hK : X.K = K) (hu : X.A.units + 64 < cLine) : OpR X (compareOp .Eq) (rEqD K) := hK ▸ op_eqD hu
end

theorem acc3 {K : PySem.W.Frag} {H5 H' H7 : Hp} {pD p7 : Addr} {ws : List V} {ss : List S3} {t : S3} (nD : H5 pD = none) (t1 : Same H5 H') (e : H' pD = some (.lst ws))
    (all : AllAt (At3 K H') ws ss) (s7 : Same H' H7) (n7 : H' p7 = none) (g7 : H7 p7 = some (.tup [.int t.1, .int t.2.1, .int t.2.2])) (len : ss.length ≤ 900) :
    ∃ acc, H7 pD = some (.lst acc) ∧ acc.length < sizeLine ∧ (Same H5 (upd H7 pD (.lst (acc ++ [.ref p7]))) ∧
      ∃ ws', (upd H7 pD (.lst (acc ++ [.ref p7]))) pD = some (.lst ws') ∧ AllAt (At3 K (upd H7 pD (.lst (acc ++ [.ref p7])))) ws' (ss ++ [t])) := by
  have npD : pD ≠ p7 := ne_of_none e n7
  have k7 := s7 _ _ e
  have lw := all.length
  have sT : ∀ {o : HO} {b : Addr} {xs : List V}, SqT K H7 b xs → SqT K (upd H7 pD o) b xs := fun {o b xs} z => by
    rcases z with (z | ⟨oo, z⟩) | z
    · exact .inl (.inl (by rw [upd_ne (ne_of z k7 (by intro z; cases z))]; exact z))
    · exact .inl (.inr ⟨oo, by rw [upd_ne (ne_of z k7 (by intro z; cases z))]; exact z⟩)
    · exact .inr z
  refine ⟨ws, k7, small1000 (by omega), fun b o z => ?_, ws ++ [.ref p7], upd_same, ?_⟩
  · rw [upd_ne (ne_of_none z nD)]
    exact s7 _ _ (t1 _ _ z)
  · refine AllAt.app (all.map fun v s h => ?_) (.cons ⟨p7, rfl, .inl (.inl ?_)⟩ .nil)
    · obtain ⟨b, rfl, h9⟩ := h.same s7
      exact ⟨b, rfl, sT h9⟩
    · rw [upd_ne npD.symm]
      exact g7
end Cl

namespace Cl
open PySem PySem.Spec PyProof.Rows L2
/-! ### what two lines have in common is shown shortly -/
def ok3 (s : S3) : Prop := okI s.1 ∧ okI s.2.1 ∧ okI s.2.2
theorem okI.sh {i : Int} (h : okI i) : i.natAbs.log2 < 1920 := by have := h.log; omega
theorem fine3 : ∀ {ss : List S3}, ss.length ≤ 2 → (∀ s ∈ ss, ok3 s) → Fine (.tuple (ss.map d3))
  | [], _, _ => by constructor <;> decide
  | [a], _, h => by
    obtain ⟨h1, h2, h3⟩ := h a (by simp)
    have a1 := h1.len
    have a2 := h2.len
    have a3 := h3.len
    have b1 := h1.sh
    have b2 := h2.sh
    have b3 := h3.sh
    constructor
    · simp [d3, PyData.leavesShort, PyData.leavesShortAll, a1, a2, a3]
    · simp [d3, PyData.showable, PyData.showableAll, b1, b2, b3]
    · rfl
    · simp [d3, PyData.depth, PyData.depthAll]
    · simp [d3, PyData.bulk, PyData.bulkAll]
  | [a, b], _, h => by
    obtain ⟨h1, h2, h3⟩ := h a (by simp)
    obtain ⟨g1, g2, g3⟩ := h b (by simp)
    have a1 := h1.len
    have a2 := h2.len
    have a3 := h3.len
    have b1 := h1.sh
    have b2 := h2.sh
    have b3 := h3.sh
    have c1 := g1.len
    have c2 := g2.len
    have c3 := g3.len
    have e1 := g1.sh
    have e2 := g2.sh
    have e3 := g3.sh
    constructor
    · simp [d3, PyData.leavesShort, PyData.leavesShortAll, a1, a2, a3, c1, c2, c3]
    · simp [d3, PyData.showable, PyData.showableAll, b1, b2, b3, e1, e2, e3]
    · rfl
    · simp [d3, PyData.depth, PyData.depthAll]
    · simp [d3, PyData.bulk, PyData.bulkAll]
theorem BdC.or {p q r : Pt} (hp : BdC p) (hq : BdC q) (h : r = p ∨ r = q) : BdC r := by rcases h with rfl | rfl <;> assumption
theorem ok_one3 {p : Pt} (h : BdC p) : ok3 (one3 p) := by
  unfold BdC at h
  exact ⟨okI.of (show -(2 ^ 189) < p.1 by omega) (show p.1 < 2 ^ 189 by omega), okI.of (show -(2 ^ 189) < p.2 by omega) (show p.2 < 2 ^ 189 by omega), okI.of (show -(2 ^ 189) < (1 : Int) by omega) (show (1 : Int) < 2 ^ 189 by omega)⟩
theorem okI_div {n p : Int} (h : n.natAbs < 2 ^ 190) : okI (n / p) := Nat.lt_of_le_of_lt (Int.natAbs_ediv_le_natAbs n p) h
theorem fine_cmn {l r : Ln} (bl : BdL l) (br : BdL r) : Fine (.tuple ((cmn l r).map d3)) := by
  have b1 := bd_less bl.2 bl.1
  have b2 := bd_less br.2 br.1
  have b3 := bd_less br.1 bl.1
  have t1 := trn_lt b1 b2
  have t2 := trn_lt b3 b2
  have kM : (klm l r).2.2.natAbs < 2 ^ 122 := by
    show (trn (less l.2 l.1) (less r.2 r.1) * kfs l r).natAbs < 2 ^ 122
    unfold kfs
    split <;> omega
  have kN : (klm l r).1.natAbs < 2 ^ 122 := by
    show (trn (less r.1 l.1) (less r.2 r.1) * kfs l r).natAbs < 2 ^ 122
    unfold kfs
    split <;> omega
  have hlo : BdC (lo l r) := by
    obtain ⟨c, _⟩ := mx_or (mn l.1 l.2) (mn r.1 r.2)
    exact BdC.or (BdC.or bl.1 bl.2 (mn_or l.1 l.2).1) (BdC.or br.1 br.2 (mn_or r.1 r.2).1) c
  have hhi : BdC (hi l r) := by
    obtain ⟨c, _⟩ := mn_or (mx l.1 l.2) (mx r.1 r.2)
    exact BdC.or (BdC.or bl.1 bl.2 (mx_or l.1 l.2).1) (BdC.or br.1 br.2 (mx_or r.1 r.2).1) c
  unfold cmn
  split
  · unfold acr
    simp only
    split
    · refine fine3 (by simp) fun s hs => ?_
      rw [List.mem_singleton.mp hs]
      obtain ⟨⟨x1, x2⟩, x3, x4⟩ := bl.1
      unfold BdP less at b1
      obtain ⟨⟨y1, y2⟩, y3, y4⟩ := b1
      simp only at y1 y2 y3 y4
      have m1 := wide_lt (i := (klm l r).2.2) (j := l.1.1) (a := 122) (b := 40) kM (by omega)
      have m2 := wide_lt (i := (klm l r).2.2) (j := l.1.2) (a := 122) (b := 40) kM (by omega)
      have m3 := wide_lt (i := (klm l r).1) (j := l.2.1 - l.1.1) (a := 122) (b := 60) kN (by omega)
      have m4 := wide_lt (i := (klm l r).1) (j := l.2.2 - l.1.2) (a := 122) (b := 60) kN (by omega)
      exact ⟨okI_div (by omega), okI_div (by omega), okI_div (by omega)⟩
    · exact fine3 (by simp) fun s hs => nomatch hs
  · split
    · exact fine3 (by simp) fun s hs => nomatch hs
    · unfold alo
      split
      · exact fine3 (by simp) fun s hs => nomatch hs
      · split
        · refine fine3 (by simp) fun s hs => ?_
          rw [List.mem_singleton.mp hs]
          exact ok_one3 hlo
        · refine fine3 (by simp) fun s hs => ?_
          rcases List.mem_cons.mp hs with rfl | hs
          · exact ok_one3 hlo
          · rw [List.mem_singleton.mp hs]
            exact ok_one3 hhi

/-! ### a list that is written to: tuples and the deck stay -/
section
variable {K : PySem.W.Frag} {H : Hp} {M d l : Addr} {xs : List V} {o : HO} {v : V}
theorem updT {b : Addr} {ys : List V} (e : H M = some (.lst xs)) (h : SqT K H b ys) : SqT K (upd H M o) b ys := by
  rcases h with (z | ⟨oo, z⟩) | z
  · exact .inl (.inl (by rw [upd_ne (ne_of z e (by intro z; cases z))]; exact z))
  · exact .inl (.inr ⟨oo, by rw [upd_ne (ne_of z e (by intro z; cases z))]; exact z⟩)
  · exact .inr z
theorem At2.upd {p : Pt} (h : At2 K H v p) (e : H M = some (.lst xs)) : At2 K (upd H M o) v p := by
  obtain ⟨a, rfl, h⟩ := h
  exact ⟨a, rfl, updT e h⟩
theorem AtL.upd {r : Ln} (h : AtL K H v r) (e : H M = some (.lst xs)) : AtL K (L2.upd H M o) v r := by
  obtain ⟨a, u, w, rfl, h1, h2, h3⟩ := h
  exact ⟨a, u, w, rfl, updT e h1, At2.upd h2 e, At2.upd h3 e⟩
theorem Deck.upd (D : Deck H d l) (h1 : M ≠ d) (h2 : M ≠ l) : Deck (L2.upd H M o) d l := by
  obtain ⟨ns, s, c, e1, e2, e3⟩ := D.ex
  exact ⟨D.ne, ns, s, c, by rw [upd_ne h1.symm]; exact e1, by rw [upd_ne h2.symm]; exact e2, e3⟩
end
/-! ### lines drawn -/
def GoodLn (B : Int) (r : Ln) : Prop := BdN B r.1 ∧ BdN B r.2 ∧ r.1 ≠ r.2
def spPoint (K : PySem.W.Frag) : Sp := fun vs H Q _ => ∃ (d l : Addr) (g : Int), vs = [.ref d, .int g] ∧ 0 < g ∧ g ≤ 10 ∧ Deck H d l ∧
  ∀ w H' p, Step d l H H' → At2 K H' w p → BdN 100 p → Q w H'
def spBeside (K : PySem.W.Frag) : Sp := fun vs H Q _ => ∃ (d l : Addr) (v u w : V) (r : Ln) (p q : Pt), vs = [.ref d, v, u, w] ∧ Deck H d l ∧ AtL K H v r ∧ GoodLn 200 r ∧
  At2 K H u p ∧ BdN 100 p ∧ At2 K H w q ∧ BdN 100 q ∧ ∀ w H' r', Step d l H H' → AtL K H' w r' → GoodLn 3000 r' → Q w H'
def spLine (K : PySem.W.Frag) : Sp := fun vs H Q _ => ∃ (d l : Addr) (g : Int) (L : Addr) (ws : List V) (ls : List Ln), vs = [.ref d, .int g, .ref L] ∧ 0 < g ∧ g ≤ 10 ∧ Deck H d l ∧
  L ≠ d ∧ L ≠ l ∧ H L = some (.lst ws) ∧ AllAt (AtL K H) ws ls ∧ ls.length ≤ 10 ∧ (∀ r ∈ ls, GoodLn 3000 r) ∧
  ∀ w H' r', Step d l H H' → AtL K H' w r' → GoodLn 3000 r' → Q w H'
def AtT (K : PySem.W.Frag) (H : Hp) (v : V) (ls : List Ln) : Prop := ∃ a vs, v = .ref a ∧ SqT K H a vs ∧ AllAt (AtL K H) vs ls
def spLines (K : PySem.W.Frag) (n : Nat) : Sp := fun vs H Q _ => ∃ (d l : Addr) (g : Int), vs = [.ref d, .int g, .int n] ∧ 0 < g ∧ g ≤ 10 ∧ Deck H d l ∧
  ∀ w H' ls, Step d l H H' → AtT K H' w ls → ls.length = n → (∀ r ∈ ls, BdL r ∧ r.1 ≠ r.2) → Q w H'
def dl (r : Ln) : PyData := .tuple [pd r.1, pd r.2]
theorem AtL.dp {K : PySem.W.Frag} {H : Hp} {v : V} {r : Ln} (h : AtL K H v r) : Dp K H v (dl r) := by
  obtain ⟨a, u, w, rfl, h1, h2, h3⟩ := h
  exact .tup h1 (.cons h2.dp (.cons h3.dp .nil))
theorem lines_dp {K : PySem.W.Frag} {H : Hp} : ∀ {ws : List V} {ls : List Ln}, AllAt (AtL K H) ws ls → DpAll K H ws (ls.map dl)
  | _, _, .nil => .nil
  | _, _, .cons h t => .cons h.dp (lines_dp t)
theorem shapedLines (ls : List Ln) : SeqAt.shaped (.list (ls.map dl)) = true := by
  have h1 : ∀ ls : List Ln, PyData.canLayAll0 (ls.map dl) = true := by
    intro ls
    induction ls with
    | nil => rfl
    | cons n r ih => simp [PyData.canLayAll0, PyData.canLay0, dl, pd, ih]
  have h2 : ∀ ls : List Ln, PyData.depthAll (ls.map dl) ≤ 2 := by
    intro ls
    induction ls with
    | nil => decide
    | cons n r ih =>
      simp only [List.map_cons, PyData.depthAll]
      have : (dl n).depth = 2 := by simp [dl, pd, PyData.depth, PyData.depthAll]
      omega
  have h3 := h2 ls
  simp [SeqAt.shaped, PyData.canLay0, PyData.depth, h1]
  omega
theorem eqvNilL (ls : List Ln) : PyData.eqv (.list (ls.map dl)) (.list []) = ls.isEmpty := by
  cases ls <;> simp [PyData.eqv, PyData.eqvAll]
theorem AllAt.three {α : Type} {R : V → α → Prop} {vs : List V} {xs : List α} (h : AllAt R vs xs) (l : xs.length = 3) :
    ∃ v0 v1 v2 x0 x1 x2, vs = [v0, v1, v2] ∧ xs = [x0, x1, x2] ∧ R v0 x0 ∧ R v1 x1 ∧ R v2 x2 := by
  cases h with
  | nil => cases l
  | cons h0 h =>
    cases h with
    | nil => cases l
    | cons h1 h =>
      cases h with
      | nil => cases l
      | cons h2 h =>
        cases h with
        | nil => exact ⟨_, _, _, _, _, _, rfl, rfl, h0, h1, h2⟩
        | cons _ _ => simp at l
end Cl

namespace Cl
open PySem PySem.Spec PyProof.Rows L2
/-! ### pairs of lines of great numbers -/
def AtPair (K : PySem.W.Frag) (H : Hp) (v : V) (l r : Ln) : Prop := ∃ a u w, v = .ref a ∧ SqT K H a [u, w] ∧ AtL K H u l ∧ AtL K H w r
def GoodPair (l r : Ln) : Prop := BdL l ∧ BdL r ∧ l.1 ≠ l.2 ∧ r.1 ≠ r.2
def spPair (K : PySem.W.Frag) : Sp := fun vs H Q _ => ∃ (d l : Addr), vs = [.ref d] ∧ Deck H d l ∧
  ∀ w H' m n, Step d l H H' → AtPair K H' w m n → GoodPair m n → Q w H'
def spNum (B : Int) : Sp := fun vs H Q _ => ∃ (d l : Addr), vs = [.ref d] ∧ Deck H d l ∧ ∀ v H', -B ≤ v → v ≤ B → Step d l H H' → Q (.int v) H'
def spStepsP (K : PySem.W.Frag) : Sp := fun vs H Q _ => ∃ (d l : Addr), vs = [.ref d] ∧ Deck H d l ∧
  ∀ w H' p, Step d l H H' → At2 K H' w p → BdN 60000 p → p ≠ (0, 0) → Q w H'
theorem bdC_of {p : Pt} (h : BdN 10000000 p) : BdC p := by
  unfold BdN at h
  unfold BdC
  omega
theorem AllAt.twoLn {K : PySem.W.Frag} {H : Hp} {vs : List V} {p q : Pt} (h : AllAt (At2 K H) vs [p, q]) : ∃ u w, vs = [u, w] ∧ At2 K H u p ∧ At2 K H w q := by
  match vs, h with
  | [u, w], .cons a (.cons b .nil) => exact ⟨u, w, rfl, a, b⟩
theorem four {xs : List Int} (h : xs.length = 4) : ∃ x y z w, xs = [x, y, z, w] := by
  match xs, h with
  | [x, y, z, w], _ => exact ⟨x, y, z, w, rfl⟩
end Cl

set_option maxHeartbeats 0
namespace Cl
open PySem PySem.Spec PyProof.Rows L2
def topS (i : Nat) : Stmt := PySem.Challenge.pw_cornerlines_k09_in_common_of_great_numbe.main.body.getD i (.Pass ⟨0, 0, 0, 0⟩)

abbrev sgreatest_parting : Stmt := topS 1
theorem scgreatest_parting : FnScope ["n", "m"] ["n", "m"] (defScope sgreatest_parting) := ⟨rfl, rfl, rfl, by decide +kernel, rfl, by decide +kernel, by decide +kernel⟩
abbrev sspot_of : Stmt := topS 3
theorem scspot_of : FnScope ["n", "m", "d", "part"] ["n", "m", "d"] (defScope sspot_of) := ⟨rfl, rfl, rfl, by decide +kernel, rfl, by decide +kernel, by decide +kernel⟩
abbrev sstep_of : Stmt := topS 5
theorem scstep_of : FnScope ["line", "x", "y", "far_x", "far_y"] ["line"] (defScope sstep_of) := ⟨rfl, rfl, rfl, by decide +kernel, rfl, by decide +kernel, by decide +kernel⟩
abbrev sturn_of : Stmt := topS 6
theorem scturn_of : FnScope ["one", "other"] ["one", "other"] (defScope sturn_of) := ⟨rfl, rfl, rfl, by decide +kernel, rfl, by decide +kernel, by decide +kernel⟩
abbrev sside_of : Stmt := topS 7
theorem scside_of : FnScope ["line", "point"] ["line", "point"] (defScope sside_of) := ⟨rfl, rfl, rfl, by decide +kernel, rfl, by decide +kernel, by decide +kernel⟩
abbrev sspot_at : Stmt := topS 9
theorem scspot_at : FnScope ["line", "k", "m", "x", "y", "dx", "dy"] ["line", "k", "m"] (defScope sspot_at) := ⟨rfl, rfl, rfl, by decide +kernel, rfl, by decide +kernel, by decide +kernel⟩
abbrev scommon : Stmt := topS 11
theorem sccommon : FnScope ["one", "other"] ["one", "other"] (defScope scommon) := ⟨rfl, rfl, rfl, by decide +kernel, rfl, by decide +kernel, by decide +kernel⟩
abbrev scommon_across : Stmt := topS 12
theorem sccommon_across : FnScope ["one", "other", "way", "across", "between", "m", "k", "l"] ["one", "other"] (defScope scommon_across) := ⟨rfl, rfl, rfl, by decide +kernel, rfl, by decide +kernel, by decide +kernel⟩
abbrev scommon_along : Stmt := topS 13
theorem sccommon_along : FnScope ["one", "other", "low", "high", "ends", "x", "y"] ["one", "other"] (defScope scommon_along) := ⟨rfl, rfl, rfl, by decide +kernel, rfl, by decide +kernel, by decide +kernel⟩
abbrev s_law_deck : Stmt := topS 15
theorem sc_law_deck : FnScope ["_law_script", "_law_cells", "_law_cell"] ["_law_script"] (defScope s_law_deck) := ⟨rfl, rfl, rfl, by decide +kernel, rfl, by decide +kernel, by decide +kernel⟩
abbrev s_law_draw : Stmt := topS 16
theorem sc_law_draw : FnScope ["_law_deck_here", "_law_most", "_law_cell", "_law_number"] ["_law_deck_here", "_law_most"] (defScope s_law_draw) := ⟨rfl, rfl, rfl, by decide +kernel, rfl, by decide +kernel, by decide +kernel⟩
abbrev s_law_unlike : Stmt := topS 17
theorem sc_law_unlike : FnScope ["_law_one", "_law_other"] ["_law_one", "_law_other"] (defScope s_law_unlike) := ⟨rfl, rfl, rfl, by decide +kernel, rfl, by decide +kernel, by decide +kernel⟩
abbrev s_law_far : Stmt := topS 18
theorem sc_law_far : FnScope ["_law_deck_here", "_law_far_here"] ["_law_deck_here"] (defScope s_law_far) := ⟨rfl, rfl, rfl, by decide +kernel, rfl, by decide +kernel, by decide +kernel⟩
abbrev s_law_step : Stmt := topS 19
theorem sc_law_step : FnScope ["_law_deck_here", "_law_way", "_law_small", "_law_great"] ["_law_deck_here"] (defScope s_law_step) := ⟨rfl, rfl, rfl, by decide +kernel, rfl, by decide +kernel, by decide +kernel⟩
abbrev s_law_steps : Stmt := topS 20
theorem sc_law_steps : FnScope ["_law_deck_here", "_law_one", "_law_other"] ["_law_deck_here"] (defScope s_law_steps) := ⟨rfl, rfl, rfl, by decide +kernel, rfl, by decide +kernel, by decide +kernel⟩
abbrev s_law_great_pair : Stmt := topS 21
theorem sc_law_great_pair : FnScope ["_law_deck_here", "_law_way", "_law_x", "_law_y", "_law_some", "_law_many", "_law_one", "_law_at", "_law_on", "_law_other", "_law_dx", "_law_dy", "_law_p"] ["_law_deck_here"] (defScope s_law_great_pair) := ⟨rfl, rfl, rfl, by decide +kernel, rfl, by decide +kernel, by decide +kernel⟩
abbrev s_law_turn : Stmt := topS 22
theorem sc_law_turn : FnScope ["_law_one", "_law_other"] ["_law_one", "_law_other"] (defScope s_law_turn) := ⟨rfl, rfl, rfl, by decide +kernel, rfl, by decide +kernel, by decide +kernel⟩
abbrev s_law_less : Stmt := topS 23
theorem sc_law_less : FnScope ["_law_one", "_law_other"] ["_law_one", "_law_other"] (defScope s_law_less) := ⟨rfl, rfl, rfl, by decide +kernel, rfl, by decide +kernel, by decide +kernel⟩
abbrev s_law_parted : Stmt := topS 24
theorem sc_law_parted : FnScope ["_law_one", "_law_other"] ["_law_one", "_law_other"] (defScope s_law_parted) := ⟨rfl, rfl, rfl, by decide +kernel, rfl, by decide +kernel, by decide +kernel⟩
abbrev s_law_lowest : Stmt := topS 25
theorem sc_law_lowest : FnScope ["_law_n", "_law_m", "_law_d", "_law_by"] ["_law_n", "_law_m", "_law_d"] (defScope s_law_lowest) := ⟨rfl, rfl, rfl, by decide +kernel, rfl, by decide +kernel, by decide +kernel⟩
abbrev s_law_due_along : Stmt := topS 26
theorem sc_law_due_along : FnScope ["_law_one", "_law_other", "_law_some", "_law_p"] ["_law_one", "_law_other"] (defScope s_law_due_along) := ⟨rfl, rfl, rfl, by decide +kernel, rfl, by decide +kernel, by decide +kernel⟩
abbrev s_law_due : Stmt := topS 27
theorem sc_law_due : FnScope ["_law_one", "_law_other", "_law_a", "_law_b", "_law_c", "_law_e", "_law_way", "_law_there", "_law_far_here", "_law_whole", "_law_sign", "_law_here"] ["_law_one", "_law_other"] (defScope s_law_due) := ⟨rfl, rfl, rfl, by decide +kernel, rfl, by decide +kernel, by decide +kernel⟩
abbrev s_law_right : Stmt := topS 28
theorem sc_law_right : FnScope ["_law_one", "_law_other", "_law_due_here", "_law_first", "_law_second"] ["_law_one", "_law_other"] (defScope s_law_right) := ⟨rfl, rfl, rfl, by decide +kernel, rfl, by decide +kernel, by decide +kernel⟩
abbrev s_law_wide : Stmt := topS 29
theorem sc_law_wide : FnScope ["_law_deck_here", "_law_way", "_law_far_here"] ["_law_deck_here"] (defScope s_law_wide) := ⟨rfl, rfl, rfl, by decide +kernel, rfl, by decide +kernel, by decide +kernel⟩
abbrev s_law_wide_pair : Stmt := topS 30
theorem sc_law_wide_pair : FnScope ["_law_deck_here", "_law_beside", "_law_a", "_law_b", "_law_c", "_law_e", "_law_k", "_law_one"] ["_law_deck_here"] (defScope s_law_wide_pair) := ⟨rfl, rfl, rfl, by decide +kernel, rfl, by decide +kernel, by decide +kernel⟩
abbrev slaw : Stmt := topS 31
theorem sclaw : FnScope ["_law_script", "_law_deck_here", "_law_turn_here", "_law_one", "_law_other"] ["_law_script"] (defScope slaw) := ⟨rfl, rfl, rfl, by decide +kernel, rfl, by decide +kernel, by decide +kernel⟩
structure Bt (mg : Str → Option Value) : Prop where
  list : mg "list" = none
  sum : mg "sum" = none
  len : mg "len" = none
  range : mg "range" = none
  repr : mg "repr" = none
  abs : mg "abs" = none
  max : mg "max" = none
  min : mg "min" = none
  tuple : mg "tuple" = none
  int : mg "int" = none
  sorted : mg "sorted" = none
  set : mg "set" = none
theorem cut63 {ns : List Int} (h : ns.length ≤ 63) : cutV (ns.map V.int) none (some 63) = ns.map V.int := by
  unfold cutV
  rw [HT.sIx_none, show HT.sIx (ns.map V.int).length (ns.map V.int).length (some 63) = min 63 (ns.map V.int).length from HT.sIx_nat _ _ 63, List.length_map]
  rw [List.drop_zero, List.take_of_length_le (by rw [List.length_map]; omega)]
section
variable {P : Program} {w : World} {K : PySem.W.Frag} {mg : Str → Option Value} {base : Heap}
theorem ok_law_deck {f : Addr} {fd : FuncData} (F : Fun K "_law_deck" "_law_deck" s_law_deck f fd) (T : Bt mg) :
    FnG P w K mg base CX0 1 f fd ["_law_script"] (spDeck K) := by
  refine okG (k := 0) F sc_law_deck (fun vs H Q E h => ?_) (fun cdv A outer s H vs Q E hr h => ?_)
  · obtain ⟨a, ns, rfl, _⟩ := h
    rfl
  · obtain ⟨a, ns, rfl, hS, hlen, q⟩ := h
    refine ⟨_, (pss_cons (ps_set (i := 1) sc_law_deck.nd rfl (.inl rfl) (pe_callTy call_list_ofN (by rfl) T.list (by decide +kernel) (pa_cons (pe_slice sl_listN (pv 0) po_none (po_some pe_int)) pa_nil)))
      (pss_one (ps_ret (lstN (pa_cons (pe_revL (pv 1)) (pa_cons (pe_op op_add (pe_callB (cr_sum rfl) (by rfl) T.sum (by decide +kernel) (pa_cons (pe_lc (own := [("_law_cell", 2)]) (g := gName 2) (tt := tYes) (by rfl) sc_law_deck.nd (pi_list (pv 1)) (blkOk_by (own := [("_law_cell", 2)]) (N := ["_law_script", "_law_cells", "_law_cell"]) (sc := defScope s_law_deck) (by decide +kernel)) (fun _ _ _ _ _ => (pg_name (i := 2) sc_law_deck.nd rfl (.inl rfl))) (fun _ _ _ _ _ => pts_nil) (fun _ _ _ _ _ => (pe_op op_mod (pv 2) pe_int))) pa_nil)) (pe_op op_mul pe_int (pe_callB call_len_seq (by rfl) T.len (by decide +kernel) (pa_cons (pv 1) pa_nil)))) (pa_cons pe_int pa_nil))))))), ?_⟩
    -- cells = list(script[:63])
    refine ⟨.ref a, rfl, 63, rfl, a, _, rfl, hS, fun p1 H1 n1 s1 g1 => ⟨p1, _, rfl, .inl (.inl (.inl g1)), fun p2 H2 n2 s2 g2 => ?_⟩⟩
    have t2 : Same H H2 := s1.trans s2
    rw [cut63 hlen] at g2
    refine ⟨.ref p2, rfl, p2, _, rfl, .inl (.inl g2), fun l H3 n3 s3 g3 => ?_⟩
    have t3 : Same H H3 := t2.trans s3
    rw [← List.map_reverse] at g3
    have h2 := s3 _ _ g2
    refine ⟨_, rfl, p2, rfl, ⟨_, .inl (.inl h2)⟩, fun p5 n5 => ?_⟩
    refine lcL (K := K) (a := p2) (xs := ns.map V.int) (fun i H' => Same H3 H' ∧ H' p5 = some (.lst ((ns.take i).map fun z => V.int (z % 1000003)))) n5 (fun H' e1 e2 => ⟨e1, e2⟩) (fun i H' _ z => .inl (.inl (z.1 _ _ h2))) (fun i x H' hx z => ?_) (fun H5 z => ?_)
    · obtain ⟨e1, e2⟩ := z
      rw [List.getElem?_map] at hx
      cases hn : ns[i]? with
      | none => rw [hn] at hx; cases hx
      | some y =>
        rw [hn] at hx
        cases hx
        refine ⟨rfl, _, rfl, _, _, rfl, rfl, (by show (0 : Int) < 1000003; decide), _, e2, ?_, ?_, ?_⟩
        · rw [List.length_map, List.length_take]
          exact small1000 (by omega)
        · intro b o e
          rw [upd_ne (ne_of_none e n5)]
          exact e1 _ _ e
        · rw [upd_same, List.take_add_one, hn, List.map_append]
          rfl
    · obtain ⟨e1, e2⟩ := z
      have l1 : (ns.map V.int).length = ns.length := List.length_map _
      rw [l1, List.take_length] at e2
      refine ⟨p5, ns.map fun z => z % 1000003, rfl, .inl (.inl ?_), _, rfl, p2, _, rfl, .inl (.inl (.inl (e1 _ _ h2))), _, _, rfl, rfl, .inl (by decide), _, _, rfl, rfl, (by show 3 ≤ sizeLine; decide), fun d H7 n7 s7 g7 => ?_⟩
      · rw [e2, List.map_map]
        rfl
      have hl : H7 l = some (.lst (ns.reverse.map V.int)) := s7 _ _ (e1 _ _ g3)
      exact q d l H7 ((t3.trans e1).trans s7) ⟨ne_of g7 hl (by intro z; cases hns : ns.reverse with
        | nil => rw [hns] at z; cases z
        | cons y r => rw [hns] at z; cases z), _, _, _, g7, hl, by rw [List.length_reverse]; exact hlen⟩

theorem ok_law_draw {f : Addr} {fd : FuncData} (F : Fun K "_law_draw" "_law_draw" s_law_draw f fd) (T : Bt mg) :
    FnG P w K mg base CX0 1 f fd ["_law_deck_here", "_law_most"] spDraw := by
  refine okG (k := 0) F sc_law_draw (fun vs H Q E h => ?_) (fun cdv A outer s H vs Q E hr h => ?_)
  · obtain ⟨d, l, m, rfl, _⟩ := h
    rfl
  · obtain ⟨d, l, m, rfl, hm, hm2, D, q⟩ := h
    refine ⟨_, (pss_cons (ps_asg (pe_op op_add (pe_ix ix_list (pv 0) pe_int (fun _ _ => rfl)) pe_int) (pg_sub (pv 0) pe_int set_list))
      (pss_cons (ps_set (i := 2) sc_law_draw.nd rfl (.inl rfl) (pe_ix ix_list (pv 0) pe_int (fun _ _ => rfl)))
      (cutS (ps_if (pt_cmpR (op_neD hr.room.units) (pe_ix ix_list (pv 0) pe_int (fun _ _ => rfl)) (lstN pa_nil) (nomark _)) (pss_cons (ps_set (i := 2) sc_law_draw.nd rfl (.inl rfl) (pe_bm0 PySem.F.plainAttrs_list PySem.F.slot_list_pop PySem.F.type_list_pop mt_pop (pe_ix ix_list (pv 0) pe_int (fun _ _ => rfl))))
      (pss_one (ps_if (pt_cmpR op_ge (pv 2) (pe_op op_pow pe_int pe_int) (nomark _)) (pss_cons (ps_expr (pe_bm PySem.F.plainAttrs_list PySem.F.slot_list_append PySem.F.type_list_append mt_append (pe_ix ix_list (pv 0) pe_int (fun _ _ => rfl)) (pa_cons (pe_op op_fdivW (pv 2) (pv 1)) pa_nil)))
      (pss_one (ps_ret (pe_op op_mod (pv 2) (pv 1))))) pss_nil))) pss_nil)
      (pss_cons (ps_set (i := 3) sc_law_draw.nd rfl (.inl rfl) (pe_op op_mod (pe_op op_mul (pe_op op_add (pe_op op_add (pe_op op_mod (pv 2) pe_int) (pe_op op_mul pe_int (pe_ix ix_list (pv 0) pe_int (fun _ _ => rfl)))) pe_int) pe_int) pe_int))
      (pss_cons (ps_set (i := 3) sc_law_draw.nd rfl (.inl rfl) (pe_op op_mod (pe_op op_add (pe_op op_add (pe_op op_mul (pv 3) (pv 3)) (pe_op op_mul pe_int (pe_ix ix_list (pv 0) pe_int (fun _ _ => rfl)))) pe_int) pe_int))
      (pss_one (ps_ret (pe_op op_mod (pe_op op_fdiv (pe_op op_mod (pe_op op_add (pe_op op_mul (pv 3) (pv 3)) (pe_op op_mul pe_int (pv 3))) pe_int) pe_int) (pv 1))))))))), ?_⟩
    obtain ⟨ns, s0, c, h1, h2, h3⟩ := D.ex
    have dl := D.ne
    -- deck[2] = deck[2] + 1
    refine ⟨.ref d, rfl, d, _, 2, .int c, rfl, rfl, .inl (.inl h1), rfl, c, 1, rfl, rfl, .ref d, rfl, d, _, 2, 2, rfl, rfl, h1, rfl, ?_⟩
    generalize hU : upd H d (.lst ([V.ref l, .int s0, .int c].set 2 ((fun i j => V.int (i + j)) c 1))) = H1
    have g1 : H1 d = some (.lst [.ref l, .int s0, .int (c + 1)]) := by rw [← hU]; exact upd_same
    have g2 : H1 l = some (.lst (ns.map V.int)) := by rw [← hU, upd_ne dl.symm]; exact h2
    have g3 : ∀ b o, b ≠ d → b ≠ l → H b = some o → H1 b = some o := fun b o e1 _ e2 => by rw [← hU, upd_ne e1]; exact e2
    clear hU
    have fin : ∀ (ms : List Int) (H2 : Hp), ms.length ≤ 63 → H2 d = some (.lst [.ref l, .int s0, .int (c + 1)]) → H2 l = some (.lst (ms.map V.int)) →
        (∀ b o, b ≠ d → b ≠ l → H b = some o → H2 b = some o) → Step d l H H2 := fun ms H2 e1 e2 e3 e4 => ⟨⟨dl, ms, s0, c + 1, e2, e3, e1⟩, fun b o e => by
          obtain ⟨n1, n2, n3⟩ := hide_at e
          rw [hide_ne n1 n2]
          exact e4 b o n1 n2 n3⟩
    -- cell = deck[1]
    refine ⟨.ref d, rfl, d, _, 1, .int s0, rfl, rfl, .inl (.inl g1), rfl, ?_⟩
    refine ⟨fun σ' H' => ∃ (cell : Int) (y : Option V) (ms : List Int), σ' = [some (.ref d), some (.int m), some (.int cell), y] ∧ ms.length ≤ 63 ∧
      H' d = some (.lst [.ref l, .int s0, .int (c + 1)]) ∧ H' l = some (.lst (ms.map V.int)) ∧ (∀ b o, b ≠ d → b ≠ l → H b = some o → H' b = some o), ?_, ?_⟩
    · -- if deck[0] != []
      refine ⟨.ref d, rfl, d, _, 0, .ref l, rfl, rfl, .inl (.inl g1), rfl, Nat.zero_le _, fun pe HE ne se ge => ?_⟩
      have h1E := se _ _ g1
      have h2E := se _ _ g2
      have h3E : ∀ b o, b ≠ d → b ≠ l → H b = some o → HE b = some o := fun b o e1 e2 e3 => se _ _ (g3 b o e1 e2 e3)
      refine ⟨_, _, .lst (.inl (.inl h2E)) (dpInts ns), .lst (.inl (.inl ge)) .nil, shapedInts ns, rfl, _, rfl, ?_⟩
      show if (!PyData.eqv (.list (ns.map PyData.int)) (.list [])) = true then _ else _
      rw [eqvNil]
      refine ite2 (fun e => ?_) (fun e => ?_)
      · have h0 : ns ≠ [] := fun z => by subst z; exact absurd e (by decide)
        obtain ⟨z, hz⟩ : ∃ z, ns[ns.length - 1]? = some z := by
          have : ns.length - 1 < ns.length := by cases ns with
            | nil => exact absurd rfl h0
            | cons a b => simp
          exact ⟨_, List.getElem?_eq_getElem this⟩
        -- cell = deck[0].pop()
        refine ⟨.ref d, rfl, d, _, 0, .ref l, rfl, rfl, .inl (.inl h1E), rfl, .inl ⟨rfl, _, .inl (.inl h2E)⟩, l, _, .int z, rfl, rfl, h2E, ?_, ?_⟩
        · rw [List.length_map, List.getElem?_map, hz]
          rfl
        have k1 : ns.dropLast.length < 63 := by
          rw [List.length_dropLast]
          have : ns.length ≠ 0 := fun z => h0 (List.length_eq_zero_iff.mp z)
          omega
        generalize hU : upd HE l (.lst (ns.map V.int).dropLast) = H2
        have u1 : H2 d = some (.lst [.ref l, .int s0, .int (c + 1)]) := by rw [← hU, upd_ne dl]; exact h1E
        have u2 : H2 l = some (.lst (ns.dropLast.map V.int)) := by rw [← hU, upd_same, dropLast_map]
        have u3 : ∀ b o, b ≠ d → b ≠ l → H b = some o → H2 b = some o := fun b o e1 e2 e3 => by rw [← hU, upd_ne e2]; exact h3E b o e1 e2 e3
        clear hU
        refine ⟨.int z, rfl, _, _, rfl, rfl, ⟨by decide, by decide, by decide⟩, _, _, rfl, rfl, _, rfl, ite2 (fun e2 => ?_) (fun e2 => ?_)⟩
        · -- deck[0].append(cell // most); return cell % most
          refine ⟨.ref d, rfl, d, _, 0, .ref l, rfl, rfl, .inl (.inl u1), rfl, .inl ⟨rfl, _, .inl (.inl u2)⟩, .int z, rfl, .int m, rfl, _, _, rfl, rfl,
            wide_div (b := 64) hm (by omega) (by decide) (by decide), l, _, _, rfl, rfl, u2, ?_, ?_⟩
          · rw [List.length_map]
            exact small1000 (by omega)
          refine ⟨.int z, rfl, .int m, rfl, _, _, rfl, rfl, hm, q _ _ (Int.emod_nonneg _ (by omega)) (Int.emod_lt_of_pos _ hm) (fin (ns.dropLast ++ [z / m]) _ ?_ ?_ ?_ ?_)⟩
          · rw [List.length_append]; show _ + 1 ≤ 63; omega
          · rw [upd_ne dl]; exact u1
          · rw [upd_same, List.map_append]; rfl
          · intro b o e1 e2 e3
            rw [upd_ne e2]; exact u3 b o e1 e2 e3
        · exact ⟨z, none, ns.dropLast, rfl, by omega, u1, u2, u3⟩
      · exact ⟨s0, none, ns, rfl, h3, h1E, h2E, h3E⟩
    · rintro σ' H' ⟨cell, y, ms, rfl, e1, e2, e3, e4⟩
      have S := fin ms H' e1 e2 e3 e4
      have eD : SqL K H' d [.ref l, .int s0, .int (c + 1)] := .inl (.inl e2)
      refine ⟨_, rfl, _, _, rfl, rfl, (by show (0 : Int) < 2147483629; decide), .ref d, rfl, d, _, 2, .int (c + 1), rfl, rfl, eD, rfl, _, _, rfl, rfl, .inl (by decide),
        _, _, rfl, rfl, _, _, rfl, rfl, _, _, rfl, rfl, .inr (by decide), _, _, rfl, rfl, (by show (0 : Int) < 2147483647; decide), ?_⟩
      refine ⟨_, rfl, _, rfl, _, _, rfl, rfl, .inl (modlt (by decide) (by decide)), .ref d, rfl, d, _, 2, .int (c + 1), rfl, rfl, eD, rfl, _, _, rfl, rfl, .inl (by decide),
        _, _, rfl, rfl, _, _, rfl, rfl, _, _, rfl, rfl, (by show (0 : Int) < 2147483587; decide), ?_⟩
      refine ⟨_, rfl, _, rfl, _, _, rfl, rfl, .inl (modlt (by decide) (by decide)), _, rfl, _, _, rfl, rfl, .inl (by decide), _, _, rfl, rfl, _, _, rfl, rfl, (by show (0 : Int) < 2147483563; decide),
        _, _, rfl, rfl, ⟨by decide, by decide⟩, .int m, rfl, _, _, rfl, rfl, hm, q _ _ (Int.emod_nonneg _ (by omega)) (Int.emod_lt_of_pos _ hm) S⟩

end

section
variable {P : Program} {w : World} {K : PySem.W.Frag} {mg : Str → Option Value} {base : Heap}

theorem ok_law_unlike {f : Addr} {fd : FuncData} (F : Fun K "_law_unlike" "_law_unlike" s_law_unlike f fd) (T : Bt mg) :
    FnG P w K mg base CX0 1 f fd ["_law_one", "_law_other"] (spUnlike K) := by
  refine okG (k := 0) F sc_law_unlike (fun vs H Q E h => ?_) (fun cdv A outer s H vs Q E hr h => ?_)
  · obtain ⟨u, v, p, q, rfl, _⟩ := h
    rfl
  · obtain ⟨u, v, p, p2, rfl, hp, hq, q⟩ := h
    refine ⟨_, (pss_cons (ps_if (pt_cmpR (op_eqD hr.room.units) (pv 0) (pv 1) (nomark _)) (pss_one (ps_ret (tupN (pa_cons (pv 0) (pa_cons (tupN (pa_cons (pe_op op_add (pe_ix ix_tup (pv 0) pe_int (fun _ _ => rfl)) pe_int) (pa_cons (pe_ix ix_tup (pv 0) pe_int (fun _ _ => rfl)) pa_nil))) pa_nil))))) pss_nil)
      (pss_one (ps_ret (tupN (pa_cons (pv 0) (pa_cons (pv 1) pa_nil)))))), ?_⟩
    refine ⟨_, rfl, _, rfl, _, _, hp.dp, hq.dp, rfl, rfl, _, rfl, ?_⟩
    by_cases e : p = p2
    · subst e
      rw [SeqAt.eqv_refl _ rfl]
      obtain ⟨a, rfl, ha⟩ := id hp
      refine iteT ⟨_, rfl, _, rfl, a, _, 0, _, rfl, rfl, ha, rfl, _, _, rfl, rfl, _, rfl, a, _, 1, _, rfl, rfl, ha, rfl, (by show 2 ≤ sizeLine; decide), fun p6 H6 n6 s6 g6 => ⟨(by show 2 ≤ sizeLine; decide), fun p7 H7 n7 s7 g7 => ?_⟩⟩
      exact q _ _ (p, (p.1 + 1, p.2)) (s6.trans s7) ⟨p7, _, _, rfl, .inl (.inl g7), hp.same (s6.trans s7), ⟨p6, rfl, .inl (.inl (s7 _ _ g6))⟩⟩ rfl (fun z => by have := congrArg Prod.fst z; simp only at this; omega) (.inr rfl)
    · have hne : PyData.eqv (pd p) (pd p2) = false := by
        cases hz : PyData.eqv (pd p) (pd p2) with
        | false => rfl
        | true =>
          exfalso
          apply e
          simp [pd, PyData.eqv, PyData.eqvAll] at hz
          exact Prod.ext hz.1 hz.2
      rw [hne]
      refine iteF ⟨_, rfl, _, rfl, (by show 2 ≤ sizeLine; decide), fun p6 H6 n6 s6 g6 => ?_⟩
      exact q _ _ (p, p2) s6 ⟨p6, _, _, rfl, .inl (.inl g6), hp.same s6, hq.same s6⟩ rfl e (.inl rfl)

theorem ok_law_less {f : Addr} {fd : FuncData} (F : Fun K "_law_less" "_law_less" s_law_less f fd) (T : Bt mg) :
    FnG P w K mg base CX0 1 f fd ["_law_one", "_law_other"] (spLess K) := by
  refine okG (k := 0) F sc_law_less (fun vs H Q E h => ?_) (fun cdv A outer s H vs Q E hr h => ?_)
  · obtain ⟨u, v, p, q, rfl, _⟩ := h
    rfl
  · obtain ⟨_, _, p, p2, rfl, ⟨a, rfl, ha⟩, ⟨b, rfl, hb⟩, q⟩ := h
    refine ⟨_, (pss_one (ps_ret (tupN (pa_cons (pe_op op_sub (pe_ix ix_tup (pv 0) pe_int (fun _ _ => rfl)) (pe_ix ix_tup (pv 1) pe_int (fun _ _ => rfl))) (pa_cons (pe_op op_sub (pe_ix ix_tup (pv 0) pe_int (fun _ _ => rfl)) (pe_ix ix_tup (pv 1) pe_int (fun _ _ => rfl))) pa_nil))))), ?_⟩
    exact ⟨_, rfl, a, _, 0, _, rfl, rfl, ha, rfl, _, rfl, b, _, 0, _, rfl, rfl, hb, rfl, _, _, rfl, rfl, _, rfl, a, _, 1, _, rfl, rfl, ha, rfl, _, rfl, b, _, 1, _, rfl, rfl, hb, rfl, _, _, rfl, rfl, (by show 2 ≤ sizeLine; decide),
      fun p6 H6 n6 s6 g6 => q _ _ s6 ⟨p6, rfl, .inl (.inl g6)⟩⟩

theorem ok_law_parted {f : Addr} {fd : FuncData} (F : Fun K "_law_parted" "_law_parted" s_law_parted f fd) (T : Bt mg) :
    FnG P w K mg base CX0 1 f fd ["_law_one", "_law_other"] spGp := by
  refine okG (k := 0) F sc_law_parted (fun vs H Q E h => ?_) (fun cdv A outer s H vs Q E hr h => ?_)
  · obtain ⟨n, m, rfl, _⟩ := h
    rfl
  · obtain ⟨n, m, rfl, q⟩ := h
    refine ⟨_, (pss_cons (ps_while PassesOwn.never (pt_cmpR op_ne (pv 1) pe_int (nomark _)) (pss_one (ps_par (i := 0) (j := 1) (by rfl) sc_law_parted.nd rfl rfl (by decide) rfl rfl (pa_cons (pv 1) (pa_cons (pe_op op_modN (pv 0) (pv 1)) pa_nil)) (by rfl))))
      (pss_one (ps_ret (pe_callB call_abs (by rfl) T.abs (by decide +kernel) (pa_cons (pv 0) pa_nil))))), ?_⟩
    refine while_by (fun σ H' => ∃ a b : Int, σ = [some (.int a), some (.int b)] ∧ H' = H ∧ Int.gcd a b = Int.gcd n m) (fun σ _ => match σ with | [_, some (.int b)] => b.natAbs | _ => 0) ?_ ?_ ?_
    · exact ⟨n, m, rfl, rfl, rfl⟩
    · rintro σ H' ⟨a, b, rfl, rfl, hg⟩
      refine ⟨_, rfl, rfl, _, rfl, ?_⟩
      by_cases hb : b = 0
      · subst hb
        refine iteF ⟨_, rfl, _, rfl, ?_⟩
        have e1 : (if a < 0 then -a else a) = (Int.gcd n m : Nat) := by
          rw [← hg, Int.gcd_zero_right]
          split <;> omega
        rw [e1]
        exact q
      · have e0 : (!decide (V.int b = V.int 0)) = true := by
          rw [decide_eq_false (fun z => hb (V.int.inj z))]; rfl
        rw [e0]
        exact iteT ⟨_, rfl, _, rfl, _, rfl, _, _, rfl, rfl, hb, _, _, rfl, ⟨b, a.fmod b, rfl, rfl, by rw [gcd_fmod a b hb, hg]⟩, fmod_small a b hb⟩
    · rintro σ H1 Q1 Q2 hq ⟨v, h1, h2, k, h4, h5⟩
      exact ⟨v, h1, h2, k, h4, hq _ _ h5⟩

theorem ok_law_lowest {f : Addr} {fd : FuncData} (F : Fun K "_law_lowest" "_law_lowest" s_law_lowest f fd) (T : Bt mg) (D_law_parted : Def P w K mg base 1 "_law_parted" ["_law_one", "_law_other"] spGp) :
    FnG P w K mg base CX0 2 f fd ["_law_n", "_law_m", "_law_d"] (spLowest K) := by
  refine okG (k := 1) F sc_law_lowest (fun vs H Q E h => ?_) (fun cdv A outer s H vs Q E hr h => ?_)
  · obtain ⟨n, m, d, rfl, _⟩ := h
    rfl
  · obtain ⟨n, m, d, rfl, h0, h1, q⟩ := h
    refine ⟨_, (pss_cons (ps_set (i := 3) sc_law_lowest.nd rfl (.inl rfl) (callD D_law_parted (hr.mono (by decide)) (pa_cons (callD D_law_parted (hr.mono (by decide)) (pa_cons (pv 0) (pa_cons (pv 1) pa_nil))) (pa_cons (pv 2) pa_nil))))
      (pss_one (ps_ret (tupN (pa_cons (pe_op op_fdivW (pv 0) (pv 3)) (pa_cons (pe_op op_fdivW (pv 1) (pv 3)) (pa_cons (pe_op op_fdivW (pv 2) (pv 3)) pa_nil))))))), ?_⟩
    have hp : spP n m d = gpar n m d := if_neg (by omega)
    have a1 := gpar_le (n := n) (m := m) (d := d) (by omega)
    have a2 := gpar_pos (n := n) (m := m) (d := d) (by omega)
    have hd : ∀ x : Int, CDivW x (gpar n m d) := fun x => wide_div (b := 200) a2 (by omega) (by decide) (by decide)
    refine ⟨_, rfl, _, rfl, n, m, rfl, _, rfl, _, d, rfl, ?_⟩
    refine ⟨_, rfl, _, rfl, _, _, rfl, rfl, hd n, _, rfl, _, rfl, _, _, rfl, rfl, hd m, _, rfl, _, rfl, _, _, rfl, rfl, hd d, (by show 3 ≤ sizeLine; decide), fun p6 H6 n6 s6 g6 => q _ _ s6 ⟨p6, rfl, .inl (.inl ?_)⟩⟩
    unfold sp3
    rw [hp]
    exact g6

theorem okgreatest_parting {f : Addr} {fd : FuncData} (F : Fun K "greatest_parting" "greatest_parting" sgreatest_parting f fd) (T : Bt mg) :
    FnG P w K mg base CX0 1 f fd ["n", "m"] spGp := by
  refine okG (k := 0) F scgreatest_parting (fun vs H Q E h => ?_) (fun cdv A outer s H vs Q E hr h => ?_)
  · obtain ⟨n, m, rfl, _⟩ := h
    rfl
  · obtain ⟨n, m, rfl, q⟩ := h
    refine ⟨_, (pss_cons (ps_par (i := 0) (j := 1) (by rfl) scgreatest_parting.nd rfl rfl (by decide) rfl rfl (pa_cons (pe_callB call_abs (by rfl) T.abs (by decide +kernel) (pa_cons (pv 0) pa_nil)) (pa_cons (pe_callB call_abs (by rfl) T.abs (by decide +kernel) (pa_cons (pv 1) pa_nil)) pa_nil)) (by rfl))
      (pss_cons (ps_while PassesOwn.never (pt_cmpR op_gt (pv 1) pe_int (nomark _)) (pss_one (ps_par (i := 0) (j := 1) (by rfl) scgreatest_parting.nd rfl rfl (by decide) rfl rfl (pa_cons (pv 1) (pa_cons (pe_op op_mod (pv 0) (pv 1)) pa_nil)) (by rfl))))
      (pss_one (ps_ret (pv 0))))), ?_⟩
    refine ⟨_, rfl, _, rfl, _, rfl, _, rfl, _, _, rfl, ?_⟩
    have e1 : (if n < 0 then -n else n) = (n.natAbs : Int) := by split <;> omega
    have e2 : (if m < 0 then -m else m) = (m.natAbs : Int) := by split <;> omega
    refine while_by (fun σ H' => ∃ a b : Nat, σ = [some (.int a), some (.int b)] ∧ H' = H ∧ Nat.gcd a b = Int.gcd n m) (fun σ _ => match σ with | [_, some (.int b)] => b.toNat | _ => 0) ?_ ?_ ?_
    · refine ⟨n.natAbs, m.natAbs, ?_, rfl, rfl⟩
      show [some (V.int (if n < 0 then -n else n)), some (.int (if m < 0 then -m else m))] = _
      rw [e1, e2]
    · rintro σ H' ⟨a, b, rfl, rfl, hg⟩
      refine ⟨_, rfl, _, _, rfl, rfl, _, rfl, ite2 (fun e => ?_) (fun e => ?_)⟩
      · have hb : 0 < b := by have := of_decide_eq_true e; omega
        refine ⟨_, rfl, _, rfl, _, rfl, _, _, rfl, rfl, (by omega), _, _, rfl, ⟨b, a % b, rfl, rfl, ?_⟩, ?_⟩
        · rw [← hg, Nat.gcd_comm b, ← Nat.gcd_rec, Nat.gcd_comm]
        · show ((a : Int) % (b : Int)).toNat < (b : Int).toNat
          have := Nat.mod_lt a hb
          omega
      · have hb : b = 0 := by
          have : ¬ (0 : Int) < b := fun z => e (decide_eq_true z)
          omega
        subst hb
        rw [Nat.gcd_zero_right] at hg
        rw [← hg] at q
        exact ⟨_, rfl, q⟩
    · rintro σ H1 Q1 Q2 hq ⟨v, h1, i, j, h2, h3, k, h4, h5⟩
      exact ⟨v, h1, i, j, h2, h3, k, h4, hq _ _ h5⟩

theorem okspot_of {f : Addr} {fd : FuncData} (F : Fun K "spot_of" "spot_of" sspot_of f fd) (T : Bt mg) (Dgreatest_parting : Def P w K mg base 1 "greatest_parting" ["n", "m"] spGp) :
    FnG P w K mg base CX0 2 f fd ["n", "m", "d"] spSpotOf := by
  refine okG (k := 1) F scspot_of (fun vs H Q E h => ?_) (fun cdv A outer s H vs Q E hr h => ?_)
  · obtain ⟨n, m, d, rfl, _⟩ := h
    rfl
  · obtain ⟨n, m, d, rfl, h0, h1, q⟩ := h
    refine ⟨_, (pss_cons (ps_set (i := 3) scspot_of.nd rfl (.inl rfl) (callD Dgreatest_parting (hr.mono (by decide)) (pa_cons (callD Dgreatest_parting (hr.mono (by decide)) (pa_cons (pv 0) (pa_cons (pv 1) pa_nil))) (pa_cons (pv 2) pa_nil))))
      (cutS (ps_if (pt_cmpR op_lt (pv 2) pe_int (nomark _)) (pss_one (ps_set (i := 3) scspot_of.nd rfl (.inl rfl) (pe_un un_neg (pv 3)))) pss_nil)
      (pss_one (ps_ret (tupN (pa_cons (pe_op op_fdivX (pv 0) (pv 3)) (pa_cons (pe_op op_fdivX (pv 1) (pv 3)) (pa_cons (pe_op op_fdivX (pv 2) (pv 3)) pa_nil)))))))), ?_⟩
    refine ⟨_, rfl, _, rfl, n, m, rfl, _, rfl, _, d, rfl, ?_⟩
    obtain ⟨v1, v2, v3⟩ := spP_dvd n m d
    rw [← Int.fdiv_eq_ediv_of_dvd v1, ← Int.fdiv_eq_ediv_of_dvd v2, ← Int.fdiv_eq_ediv_of_dvd v3] at q
    have hd : CDivX n (spP n m d) := by
      refine ⟨spP_ne h0, ?_⟩
      have a1 := gpar_le (n := n) (m := m) h0
      have a2 := gpar_pos (n := n) (m := m) h0
      have a3 : (spP n m d).natAbs < 2 ^ 200 := by unfold spP; split <;> omega
      have := PySem.Flt.log2_lt_of (show 0 < 200 by decide) a3
      omega
    refine ⟨fun σ' H' => σ' = [some (.int n), some (.int m), some (.int d), some (.int (spP n m d))] ∧ H' = H, ?_, ?_⟩
    · refine ⟨_, rfl, _, _, rfl, rfl, _, rfl, ite2 (fun e => ?_) (fun e => ?_)⟩
      · have e' := of_decide_eq_true e
        refine ⟨_, rfl, _, rfl, ?_, rfl⟩
        unfold spP
        rw [if_pos e']
        rfl
      · have e' : ¬ d < 0 := fun z => e (decide_eq_true z)
        refine ⟨?_, rfl⟩
        unfold spP
        rw [if_neg e']
        rfl
    · rintro σ' H' ⟨rfl, rfl⟩
      exact ⟨_, rfl, _, rfl, _, _, rfl, rfl, hd, _, rfl, _, rfl, _, _, rfl, rfl, hd, _, rfl, _, rfl, _, _, rfl, rfl, hd, (by show 3 ≤ sizeLine; decide), q⟩

theorem okstep_of {f : Addr} {fd : FuncData} (F : Fun K "step_of" "step_of" sstep_of f fd) (T : Bt mg) :
    FnG P w K mg base CX0 1 f fd ["line"] (spStep K) := by
  refine okG (k := 0) F scstep_of (fun vs H Q E h => ?_) (fun cdv A outer s H vs Q E hr h => ?_)
  · obtain ⟨v, l, rfl, _⟩ := h
    rfl
  · obtain ⟨_, l, rfl, ⟨a, _, _, rfl, hS, ⟨b, rfl, hb⟩, ⟨c, rfl, hc⟩⟩, q⟩ := h
    refine ⟨_, (pss_cons (ps_asg (pv 0) (pg_tup (by rfl) (pgs_cons (pg_tup (by rfl) (pgs_cons (pg_name (i := 1) scstep_of.nd rfl (.inl rfl)) (pgs_cons (pg_name (i := 2) scstep_of.nd rfl (.inl rfl)) pgs_nil))) (pgs_cons (pg_tup (by rfl) (pgs_cons (pg_name (i := 3) scstep_of.nd rfl (.inl rfl)) (pgs_cons (pg_name (i := 4) scstep_of.nd rfl (.inl rfl)) pgs_nil))) pgs_nil))))
      (pss_one (ps_ret (tupN (pa_cons (pe_op op_sub (pv 3) (pv 1)) (pa_cons (pe_op op_sub (pv 4) (pv 2)) pa_nil)))))), ?_⟩
    refine ⟨_, rfl, a, _, rfl, hS, rfl, _, _, rfl, b, _, rfl, hb, rfl, _, _, rfl, _, _, rfl, rfl, _, _, rfl, c, _, rfl, hc, rfl, _, _, rfl, _, _, rfl, rfl, rfl, ?_⟩
    exact ⟨_, rfl, _, rfl, _, _, rfl, rfl, _, rfl, _, rfl, _, _, rfl, rfl, (by show 2 ≤ sizeLine; decide), fun p H1 n s e => q _ _ s ⟨p, rfl, .inl (.inl e)⟩⟩

theorem okturn_of {f : Addr} {fd : FuncData} (F : Fun K "turn_of" "turn_of" sturn_of f fd) (T : Bt mg) :
    FnG P w K mg base CX0 1 f fd ["one", "other"] (spTurn K) := by
  refine okG (k := 0) F scturn_of (fun vs H Q E h => ?_) (fun cdv A outer s H vs Q E hr h => ?_)
  · obtain ⟨u, v, p, q, rfl, _⟩ := h
    rfl
  · obtain ⟨_, _, p, p2, rfl, ⟨a, rfl, ha⟩, ⟨b, rfl, hb⟩, bd, q⟩ := h
    refine ⟨_, (pss_one (ps_ret (pe_op op_sub (pe_op op_mul (pe_ix ix_tup (pv 0) pe_int (fun _ _ => rfl)) (pe_ix ix_tup (pv 1) pe_int (fun _ _ => rfl))) (pe_op op_mul (pe_ix ix_tup (pv 0) pe_int (fun _ _ => rfl)) (pe_ix ix_tup (pv 1) pe_int (fun _ _ => rfl)))))), ?_⟩
    obtain ⟨⟨x1, x2⟩, y1, y2⟩ := bd
    exact ⟨_, rfl, a, _, 0, _, rfl, rfl, ha, rfl, _, rfl, b, _, 1, _, rfl, rfl, hb, rfl, _, _, rfl, rfl, .inl (by omega), _, rfl, a, _, 1, _, rfl, rfl, ha, rfl, _, rfl, b, _, 0, _, rfl, rfl, hb, rfl, _, _, rfl, rfl, .inl (by omega), _, _, rfl, rfl, q⟩

theorem ok_law_turn {f : Addr} {fd : FuncData} (F : Fun K "_law_turn" "_law_turn" s_law_turn f fd) (T : Bt mg) :
    FnG P w K mg base CX0 1 f fd ["_law_one", "_law_other"] (spTurn K) := by
  refine okG (k := 0) F sc_law_turn (fun vs H Q E h => ?_) (fun cdv A outer s H vs Q E hr h => ?_)
  · obtain ⟨u, v, p, q, rfl, _⟩ := h
    rfl
  · obtain ⟨_, _, p, p2, rfl, ⟨a, rfl, ha⟩, ⟨b, rfl, hb⟩, bd, q⟩ := h
    refine ⟨_, (pss_one (ps_ret (pe_op op_sub (pe_op op_mul (pe_ix ix_tup (pv 0) pe_int (fun _ _ => rfl)) (pe_ix ix_tup (pv 1) pe_int (fun _ _ => rfl))) (pe_op op_mul (pe_ix ix_tup (pv 0) pe_int (fun _ _ => rfl)) (pe_ix ix_tup (pv 1) pe_int (fun _ _ => rfl)))))), ?_⟩
    obtain ⟨⟨x1, x2⟩, y1, y2⟩ := bd
    exact ⟨_, rfl, a, _, 0, _, rfl, rfl, ha, rfl, _, rfl, b, _, 1, _, rfl, rfl, hb, rfl, _, _, rfl, rfl, .inl (by omega), _, rfl, a, _, 1, _, rfl, rfl, ha, rfl, _, rfl, b, _, 0, _, rfl, rfl, hb, rfl, _, _, rfl, rfl, .inl (by omega), _, _, rfl, rfl, q⟩

theorem okside_of {f : Addr} {fd : FuncData} (F : Fun K "side_of" "side_of" sside_of f fd) (T : Bt mg) (Dstep_of : Def P w K mg base 1 "step_of" ["line"] (spStep K)) (Dturn_of : Def P w K mg base 1 "turn_of" ["one", "other"] (spTurn K)) :
    FnG P w K mg base CX0 2 f fd ["line", "point"] (spSide K) := by
  refine okG (k := 1) F scside_of (fun vs H Q E h => ?_) (fun cdv A outer s H vs Q E hr h => ?_)
  · obtain ⟨u, v, l, p, rfl, _⟩ := h
    rfl
  · obtain ⟨u, v, l, p, rfl, hL, hp, bl, q⟩ := h
    refine ⟨_, (pss_one (ps_ret (callD Dturn_of (hr.mono (by decide)) (pa_cons (callD Dstep_of (hr.mono (by decide)) (pa_cons (pv 0) pa_nil)) (pa_cons (callD Dstep_of (hr.mono (by decide)) (pa_cons (tupN (pa_cons (pe_ix ix_tup (pv 0) pe_int (fun _ _ => rfl)) (pa_cons (pv 1) pa_nil))) pa_nil)) pa_nil))))), ?_⟩
    refine ⟨_, rfl, u, l, rfl, hL, fun w1 H1 s1 e1 => ?_⟩
    obtain ⟨a, x, y, ea, hS, hx, hy⟩ := hL.same s1
    subst ea
    refine ⟨_, rfl, a, _, 0, x, rfl, rfl, hS, rfl, v, rfl, (by show 2 ≤ sizeLine; decide), fun p2 H2 n2 s2 e2 => ?_⟩
    refine ⟨.ref p2, (l.1, p), rfl, ⟨p2, x, v, rfl, .inl (.inl e2), hx.same s2, hp.same (s1.trans s2)⟩, fun w3 H3 s3 e3 => ?_⟩
    exact ⟨w1, w3, _, _, rfl, e1.same (s2.trans s3), e3, bd_less bl.2 bl.1, q _ ((s1.trans s2).trans s3)⟩

theorem okspot_at {f : Addr} {fd : FuncData} (F : Fun K "spot_at" "spot_at" sspot_at f fd) (T : Bt mg) (Dstep_of : Def P w K mg base 1 "step_of" ["line"] (spStep K)) (Dspot_of : Def P w K mg base 2 "spot_of" ["n", "m", "d"] spSpotOf) :
    FnG P w K mg base CX0 3 f fd ["line", "k", "m"] (spSpotAt K) := by
  refine okG (k := 2) F scspot_at (fun vs H Q E h => ?_) (fun cdv A outer s H vs Q E hr h => ?_)
  · obtain ⟨v, l, k, m, rfl, _⟩ := h
    rfl
  · obtain ⟨_, l, kk, m, rfl, hL, bl, hm, hm2, q⟩ := h
    refine ⟨_, (pss_cons (ps_asg (pe_ix ix_tup (pv 0) pe_int (fun _ _ => rfl)) (pg_tup (by rfl) (pgs_cons (pg_name (i := 3) scspot_at.nd rfl (.inl rfl)) (pgs_cons (pg_name (i := 4) scspot_at.nd rfl (.inl rfl)) pgs_nil))))
      (pss_cons (ps_asg (callD Dstep_of (hr.mono (by decide)) (pa_cons (pv 0) pa_nil)) (pg_tup (by rfl) (pgs_cons (pg_name (i := 5) scspot_at.nd rfl (.inl rfl)) (pgs_cons (pg_name (i := 6) scspot_at.nd rfl (.inl rfl)) pgs_nil))))
      (pss_one (ps_ret (callD Dspot_of (hr.mono (by decide)) (pa_cons (pe_op op_add (pe_op op_mul (pv 2) (pv 3)) (pe_op op_mul (pv 1) (pv 5))) (pa_cons (pe_op op_add (pe_op op_mul (pv 2) (pv 4)) (pe_op op_mul (pv 1) (pv 6))) (pa_cons (pv 2) pa_nil)))))))), ?_⟩
    obtain ⟨⟨x1, x2⟩, x3, x4⟩ := bl.1
    obtain ⟨⟨d1, d2⟩, d3, d4⟩ := bd_less bl.2 bl.1
    have hL0 := hL
    obtain ⟨a, x, y, rfl, hS, ⟨b, rfl, hb⟩, hy⟩ := hL
    refine ⟨_, rfl, a, _, 0, _, rfl, rfl, hS, rfl, b, _, rfl, hb, rfl, _, _, rfl, _, _, rfl, rfl, ?_⟩
    refine ⟨_, rfl, _, l, rfl, hL0, fun w1 H1 s1 e1 => ?_⟩
    obtain ⟨c, rfl, hc⟩ := e1
    refine ⟨c, _, rfl, hc, rfl, _, _, rfl, _, _, rfl, rfl, ?_⟩
    exact ⟨_, rfl, _, rfl, _, _, rfl, rfl, .inr (by omega), _, rfl, _, rfl, _, _, rfl, rfl, .inr (by omega), _, _, rfl, rfl, _, rfl, _, rfl, _, _, rfl, rfl, .inr (by omega), _, rfl, _, rfl, _, _, rfl, rfl, .inr (by omega), _, _, rfl, rfl, _, rfl,
      _, _, m, rfl, hm, hm2, fun p H2 n2 s2 e2 => q _ _ (s1.trans s2) ⟨p, rfl, .inl (.inl e2)⟩⟩

theorem okcommon_across {f : Addr} {fd : FuncData} (F : Fun K "common_across" "common_across" scommon_across f fd) (T : Bt mg) (Dstep_of : Def P w K mg base 1 "step_of" ["line"] (spStep K)) (Dturn_of : Def P w K mg base 1 "turn_of" ["one", "other"] (spTurn K)) (Dspot_at : Def P w K mg base 3 "spot_at" ["line", "k", "m"] (spSpotAt K)) :
    FnG P w K mg base CX0 4 f fd ["one", "other"] (spTwo K acr fun l r => trn (less l.2 l.1) (less r.2 r.1) ≠ 0) := by
  refine okG (k := 3) F sccommon_across (fun vs H Q E h => ?_) (fun cdv A outer s H vs Q E hr h => ?_)
  · obtain ⟨u, v, l, r, rfl, _⟩ := h
    rfl
  · obtain ⟨u, v, l, r, rfl, hL, hR, bl, br, hne, q⟩ := h
    refine ⟨_, (pss_cons (ps_par (i := 2) (j := 3) (by rfl) sccommon_across.nd rfl rfl (by decide) rfl rfl (pa_cons (callD Dstep_of (hr.mono (by decide)) (pa_cons (pv 0) pa_nil)) (pa_cons (callD Dstep_of (hr.mono (by decide)) (pa_cons (pv 1) pa_nil)) pa_nil)) (by rfl))
      (pss_cons (ps_set (i := 4) sccommon_across.nd rfl (.inl rfl) (callD Dstep_of (hr.mono (by decide)) (pa_cons (tupN (pa_cons (pe_ix ix_tup (pv 0) pe_int (fun _ _ => rfl)) (pa_cons (pe_ix ix_tup (pv 1) pe_int (fun _ _ => rfl)) pa_nil))) pa_nil)))
      (pss_cons (ps_set (i := 5) sccommon_across.nd rfl (.inl rfl) (callD Dturn_of (hr.mono (by decide)) (pa_cons (pv 2) (pa_cons (pv 3) pa_nil))))
      (pss_cons (ps_par (i := 6) (j := 7) (by rfl) sccommon_across.nd rfl rfl (by decide) rfl rfl (pa_cons (callD Dturn_of (hr.mono (by decide)) (pa_cons (pv 4) (pa_cons (pv 3) pa_nil))) (pa_cons (callD Dturn_of (hr.mono (by decide)) (pa_cons (pv 4) (pa_cons (pv 2) pa_nil))) pa_nil)) (by rfl))
      (cutS (ps_if (pt_cmpR op_lt (pv 5) pe_int (nomark _)) (pss_one (ps_par3 (i := 6) (j := 7) (l := 5) (by rfl) sccommon_across.nd rfl rfl rfl (by decide) (by decide) (by decide) rfl rfl rfl (pa_cons (pe_un un_neg (pv 6)) (pa_cons (pe_un un_neg (pv 7)) (pa_cons (pe_un un_neg (pv 5)) pa_nil))) (by rfl))) pss_nil)
      (pss_cons (ps_if (PW.pt (pw_and (pt_chain op_le op_le pe_int (pv 6) (pv 5)) (pw_and1 (pt_chain op_le op_le pe_int (pv 7) (pv 5))))) (pss_one (ps_ret (tupN (pa_cons (callD Dspot_at (hr.mono (by decide)) (pa_cons (pv 0) (pa_cons (pv 6) (pa_cons (pv 5) pa_nil)))) pa_nil)))) pss_nil)
      (pss_one (ps_ret (tupN pa_nil))))))))), ?_⟩
    have b1 := bd_less bl.2 bl.1
    have b2 := bd_less br.2 br.1
    have b3 := bd_less br.1 bl.1
    have t1 := trn_lt b1 b2
    have t2 := trn_lt b3 b2
    have t3 := trn_lt b3 b1
    -- way, across, between
    refine ⟨_, rfl, u, l, rfl, hL, fun w1 H1 s1 e1 => ⟨_, rfl, v, r, rfl, hR.same s1, fun w2 H2 s2 e2 => ⟨_, _, rfl, ?_⟩⟩⟩
    have s12 := s1.trans s2
    obtain ⟨a, x, y, ea, hS, hx, hy⟩ := hL.same s12
    obtain ⟨b, x', y', eb, hS', hx', hy'⟩ := hR.same s12
    subst ea eb
    refine ⟨_, rfl, a, _, 0, x, rfl, rfl, hS, rfl, _, rfl, b, _, 0, x', rfl, rfl, hS', rfl, (by show 2 ≤ sizeLine; decide), fun p3 H3 n3 s3 g3 => ?_⟩
    refine ⟨.ref p3, (l.1, r.1), rfl, ⟨p3, x, x', rfl, .inl (.inl g3), hx.same s3, hx'.same s3⟩, fun w4 H4 s4 e4 => ?_⟩
    have s34 := s3.trans s4
    have f1 := e1.same (s2.trans s34)
    have f2 := e2.same s34
    -- m, k, l
    refine ⟨_, rfl, _, rfl, w1, w2, _, _, rfl, f1, f2, b1, ?_⟩
    refine ⟨_, rfl, _, rfl, w4, w2, _, _, rfl, e4, f2, b3, _, rfl, _, rfl, w4, w1, _, _, rfl, e4, f1, b3, _, _, rfl, ?_⟩
    refine ⟨fun σ' H' => σ' = [some (.ref a), some (.ref b), some w1, some w2, some w4, some (.int (klm l r).2.2), some (.int (klm l r).1), some (.int (klm l r).2.1)] ∧ H' = H4, ?_, ?_⟩
    · refine ⟨_, rfl, _, _, rfl, rfl, _, rfl, ite2 (fun e => ?_) (fun e => ?_)⟩
      · have e' : trn (less l.2 l.1) (less r.2 r.1) < 0 := of_decide_eq_true e
        have ek : kfs l r = -1 := if_pos e'
        refine ⟨_, rfl, _, rfl, _, rfl, _, rfl, _, rfl, _, rfl, _, _, _, rfl, ?_, rfl⟩
        unfold klm
        rw [ek]
        simp only [Int.mul_neg, Int.mul_one]
        rfl
      · have e' : ¬ trn (less l.2 l.1) (less r.2 r.1) < 0 := fun z => e (decide_eq_true z)
        have ek : kfs l r = 1 := if_neg e'
        refine ⟨?_, rfl⟩
        unfold klm
        rw [ek]
        simp only [Int.mul_one]
        rfl
    · rintro σ' H' ⟨rfl, rfl⟩
      have hpos := klm_pos l r hne
      have hb : (klm l r).2.2.natAbs < 2 ^ 200 := by
        show (trn (less l.2 l.1) (less r.2 r.1) * kfs l r).natAbs < 2 ^ 200
        unfold kfs
        split <;> omega
      by_cases c1 : 0 ≤ (klm l r).1 ∧ (klm l r).1 ≤ (klm l r).2.2
      · by_cases c2 : 0 ≤ (klm l r).2.1 ∧ (klm l r).2.1 ≤ (klm l r).2.2
        · have ea : acr l r = [sp3 ((klm l r).2.2 * l.1.1 + (klm l r).1 * (l.2.1 - l.1.1)) ((klm l r).2.2 * l.1.2 + (klm l r).1 * (l.2.2 - l.1.2)) (klm l r).2.2] := if_pos ⟨c1, c2⟩
          rw [ea] at q
          refine ⟨_, rfl, _, _, rfl, rfl, _, rfl, ?_⟩
          rw [decide_eq_true c1.1]
          refine iteT ⟨_, rfl, _, _, rfl, rfl, _, rfl, ?_⟩
          rw [decide_eq_true c1.2]
          refine iteT ⟨_, rfl, _, _, rfl, rfl, _, rfl, ?_⟩
          rw [decide_eq_true c2.1]
          refine iteT ⟨_, rfl, _, _, rfl, rfl, _, rfl, ?_⟩
          rw [decide_eq_true c2.2]
          refine iteT ⟨_, rfl, _, rfl, _, rfl, .ref a, l, _, _, rfl, hL.same (s12.trans s34), bl, by omega, hb, fun w5 H5 s5 e5 => ⟨(by show 1 ≤ sizeLine; decide), fun p6 H6 n6 s6 g6 => ?_⟩⟩
          exact q _ _ (((s12.trans s34).trans s5).trans s6) ⟨p6, _, rfl, .inl (.inl g6), .cons (e5.same s6) .nil⟩
        · have ea : acr l r = [] := if_neg (fun z => c2 z.2)
          rw [ea] at q
          refine ⟨_, rfl, _, _, rfl, rfl, _, rfl, ?_⟩
          rw [decide_eq_true c1.1]
          refine iteT ⟨_, rfl, _, _, rfl, rfl, _, rfl, ?_⟩
          rw [decide_eq_true c1.2]
          refine iteT ⟨_, rfl, _, _, rfl, rfl, _, rfl, ?_⟩
          have fin : ∀ {H5 : Hp}, H5 = H' → (0 : Nat) ≤ sizeLine ∧ New H5 (.tup []) Q := fun {H5} e => ⟨Nat.zero_le _, fun p6 H6 n6 s6 g6 => q _ _ ((s12.trans s34).trans (by rw [← e]; exact s6)) ⟨p6, _, rfl, .inl (.inl g6), .nil⟩⟩
          refine ite2 (fun e => ⟨_, rfl, _, _, rfl, rfl, _, rfl, ite2 (fun e2 => ?_) (fun e2 => fin rfl)⟩) (fun e => ⟨_, rfl, iteF (fin rfl)⟩)
          exact absurd ⟨of_decide_eq_true e, of_decide_eq_true e2⟩ c2
      · have ea : acr l r = [] := if_neg (fun z => c1 z.1)
        rw [ea] at q
        have fin : ∀ {H5 : Hp}, H5 = H' → (0 : Nat) ≤ sizeLine ∧ New H5 (.tup []) Q := fun {H5} e => ⟨Nat.zero_le _, fun p6 H6 n6 s6 g6 => q _ _ ((s12.trans s34).trans (by rw [← e]; exact s6)) ⟨p6, _, rfl, .inl (.inl g6), .nil⟩⟩
        refine ⟨_, rfl, _, _, rfl, rfl, _, rfl, ite2 (fun e => ⟨_, rfl, _, _, rfl, rfl, _, rfl, ite2 (fun e2 => ?_) (fun e2 => iteF (fin rfl))⟩) (fun e => ⟨_, rfl, iteF (iteF (fin rfl))⟩)⟩
        exact absurd ⟨of_decide_eq_true e, of_decide_eq_true e2⟩ c1

theorem okcommon_along {f : Addr} {fd : FuncData} (F : Fun K "common_along" "common_along" scommon_along f fd) (T : Bt mg) :
    FnG P w K mg base CX0 1 f fd ["one", "other"] (spTwo K alo fun _ _ => True) := by
  refine okG (k := 0) F sccommon_along (fun vs H Q E h => ?_) (fun cdv A outer s H vs Q E hr h => ?_)
  · obtain ⟨u, v, l, r, rfl, _⟩ := h
    rfl
  · obtain ⟨u, v, l, r, rfl, hL, hR, bl, br, _, q⟩ := h
    refine ⟨_, (pss_cons (ps_set (i := 2) sccommon_along.nd rfl (.inl rfl) (pe_callB (cr_max2 rfl hr.room.units) (by rfl) T.max (by decide +kernel) (pa_cons (pe_callB (cr_min1 rfl hr.room.units) (by rfl) T.min (by decide +kernel) (pa_cons (pv 0) pa_nil)) (pa_cons (pe_callB (cr_min1 rfl hr.room.units) (by rfl) T.min (by decide +kernel) (pa_cons (pv 1) pa_nil)) pa_nil))))
      (pss_cons (ps_set (i := 3) sccommon_along.nd rfl (.inl rfl) (pe_callB (cr_min2 rfl hr.room.units) (by rfl) T.min (by decide +kernel) (pa_cons (pe_callB (cr_max1 rfl hr.room.units) (by rfl) T.max (by decide +kernel) (pa_cons (pv 0) pa_nil)) (pa_cons (pe_callB (cr_max1 rfl hr.room.units) (by rfl) T.max (by decide +kernel) (pa_cons (pv 1) pa_nil)) pa_nil))))
      (pss_cons (ps_if (pt_cmpR (op_gt2 hr.room.units) (pv 2) (pv 3) (nomark _)) (pss_one (ps_ret (tupN pa_nil))) pss_nil)
      (pss_cons (ps_set (i := 4) sccommon_along.nd rfl (.inl rfl) (cutE (pe_ifExp (pt_cmpR (op_eqD hr.room.units) (pv 2) (pv 3) (nomark _)) (tupN (pa_cons (pv 2) pa_nil)) (tupN (pa_cons (pv 2) (pa_cons (pv 3) pa_nil))))))
      (pss_one (ps_ret (pe_callTy call_tuple_ofN (by rfl) T.tuple (by decide +kernel) (pa_cons (pe_lc (own := [("x", 5), ("y", 6)]) (g := gTup K 2 (gCons (gName 5) (gCons (gName 6) gNil))) (tt := tYes) (by rfl) sccommon_along.nd (pi_tup (pv 4)) (blkOk_by (own := [("x", 5), ("y", 6)]) (N := ["one", "other", "low", "high", "ends", "x", "y"]) (sc := defScope scommon_along) (by decide +kernel)) (fun _ _ _ _ _ => (pg_tup (by rfl) (pgs_cons (pg_name (i := 5) sccommon_along.nd rfl (.inl rfl)) (pgs_cons (pg_name (i := 6) sccommon_along.nd rfl (.inl rfl)) pgs_nil)))) (fun _ _ _ _ _ => pts_nil) (fun _ _ _ _ _ => (tupN (pa_cons (pv 5) (pa_cons (pv 6) (pa_cons pe_int pa_nil)))))) pa_nil)))))))), ?_⟩
    obtain ⟨a, x, y, rfl, hS, hx, hy⟩ := hL
    obtain ⟨b, x', y', rfl, hS', hx', hy'⟩ := hR
    refine ⟨_, rfl, a, x, y, _, _, rfl, hS, hx, hy, fun w1 _ e1 => ⟨_, rfl, b, x', y', _, _, rfl, hS', hx', hy', fun w2 _ e2 => ⟨w1, w2, _, _, rfl, e1, e2, fun wl _ el => ?_⟩⟩⟩
    refine ⟨_, rfl, a, x, y, _, _, rfl, hS, hx, hy, fun w3 _ e3 => ⟨_, rfl, b, x', y', _, _, rfl, hS', hx', hy', fun w4 _ e4 => ⟨w3, w4, _, _, rfl, e3, e4, fun wh _ eh => ?_⟩⟩⟩
    have el : At2 K H wl (lo l r) := el
    have eh : At2 K H wh (hi l r) := eh
    unfold alo at q
    refine ⟨_, rfl, _, rfl, _, _, el, eh, _, rfl, ?_⟩
    show if llt (hi l r) (lo l r) = true then _ else _
    cases hlt : llt (hi l r) (lo l r) with
    | true =>
      rw [hlt] at q
      exact iteT ⟨Nat.zero_le _, fun p6 H6 n6 s6 g6 => q _ _ s6 ⟨p6, _, rfl, .inl (.inl g6), .nil⟩⟩
    | false =>
      rw [hlt] at q
      refine iteF ⟨fun v5 H5 => Same H H5 ∧ ∃ ps : List Pt, AtP K H5 v5 ps ∧ ps.length ≤ 2 ∧ ∀ w H', Same H H' → AtS K H' w (ps.map one3) → Q w H', ?_, ?_⟩
      · refine ⟨_, rfl, _, rfl, _, _, el.dp, eh.dp, rfl, rfl, _, rfl, ?_⟩
        by_cases heq : lo l r = hi l r
        · rw [heq, SeqAt.eqv_refl _ rfl]
          refine iteT ⟨_, rfl, (by show 1 ≤ sizeLine; decide), fun p6 H6 n6 s6 g6 => ⟨s6, [lo l r], ⟨p6, _, rfl, .inl (.inl g6), .cons (el.same s6) .nil⟩, by simp, fun w H' s e => ?_⟩⟩
          rw [if_neg (by decide), if_pos heq] at q
          exact q w H' s e
        · have hne : PyData.eqv (pd (lo l r)) (pd (hi l r)) = false := by
            cases hz : PyData.eqv (pd (lo l r)) (pd (hi l r)) with
            | false => rfl
            | true =>
              exfalso
              apply heq
              simp [pd, PyData.eqv, PyData.eqvAll] at hz
              exact Prod.ext hz.1 hz.2
          rw [hne]
          refine iteF ⟨_, rfl, _, rfl, (by show 2 ≤ sizeLine; decide), fun p6 H6 n6 s6 g6 => ⟨s6, [lo l r, hi l r], ⟨p6, _, rfl, .inl (.inl g6), .cons (el.same s6) (.cons (eh.same s6) .nil)⟩, by simp, fun w H' s e => ?_⟩⟩
          rw [if_neg (by decide), if_neg heq] at q
          exact q w H' s e
      · rintro v5 H5 ⟨s5, ps, ⟨p, vs, rfl, hp, hall⟩, hlen, q'⟩
        have hlv := hall.length
        refine ⟨_, rfl, p, rfl, ⟨_, hp⟩, fun pD nD => ?_⟩
        refine lcT (K := K) (a := p) (xs := vs) (fun i H' => Same H5 H' ∧ ∃ ws, H' pD = some (.lst ws) ∧ AllAt (At3 K H') ws ((ps.take i).map one3)) nD (fun H' e1 e2 => ⟨e1, [], e2, .nil⟩) (fun i H' _ z => seT z.1 hp) (fun i z H' hz w => ?_) (fun H6 z => ?_)
        · obtain ⟨t1, ws, t2, t3⟩ := w
          obtain ⟨pt, hpt, c, rfl, hc⟩ := hall.get hz
          refine ⟨c, _, rfl, seT t1 hc, rfl, _, _, rfl, _, _, rfl, rfl, ?_⟩
          refine ⟨rfl, _, rfl, _, rfl, (by show 3 ≤ sizeLine; decide), fun p7 H7 n7 s7 g7 => ?_⟩
          have lw := t3.length
          rw [List.length_map, List.length_take] at lw
          have npD : pD ≠ p7 := ne_of_none t2 n7
          have sD : Same H7 (upd H7 pD (.lst (ws ++ [.ref p7]))) → True := fun _ => trivial
          have k7 := s7 _ _ t2
          have g7' : ∀ {o : HO}, (upd H7 pD o) p7 = some (.tup [.int pt.1, .int pt.2, .int 1]) := fun {o} => by rw [upd_ne npD.symm]; exact g7
          have st : ∀ {o : HO}, ∀ b xs, H7 b = some (.tup xs) → (upd H7 pD o) b = some (.tup xs) := fun {o} b xs e => by
            rw [upd_ne (ne_of e k7 (by intro z; cases z))]; exact e
          have sT : ∀ {o : HO} {b : Addr} {xs : List V}, SqT K H7 b xs → SqT K (upd H7 pD o) b xs := fun {o b xs} e => by
            rcases e with (e | ⟨oo, e⟩) | e
            · exact .inl (.inl (st _ _ e))
            · exact .inl (.inr ⟨oo, by rw [upd_ne (ne_of e k7 (by intro z; cases z))]; exact e⟩)
            · exact .inr e
          refine ⟨ws, k7, by rw [lw]; exact small1000 (by omega), fun b o e => ?_, ws ++ [.ref p7], upd_same, ?_⟩
          · rw [upd_ne (ne_of_none e nD)]; exact s7 _ _ (t1 _ _ e)
          · rw [List.take_add_one, hpt, List.map_append]
            refine AllAt.app ((t3.map fun _ _ z => z.same s7).map fun v s h => ?_) (.cons ⟨p7, rfl, .inl (.inl g7')⟩ .nil)
            obtain ⟨b, rfl, h⟩ := h
            exact ⟨b, rfl, sT h⟩
        · obtain ⟨t1, ws, t2, t3⟩ := z
          rw [hlv, List.take_length] at t3
          exact ⟨pD, ws, rfl, .inl (.inl t2), fun p8 H8 n8 s8 g8 => q' _ _ ((s5.trans t1).trans s8) ⟨p8, ws, rfl, .inl (.inl g8), t3.map fun _ _ z => z.same s8⟩⟩

theorem okcommon {f : Addr} {fd : FuncData} (F : Fun K "common" "common" scommon f fd) (T : Bt mg) (Dstep_of : Def P w K mg base 1 "step_of" ["line"] (spStep K)) (Dturn_of : Def P w K mg base 1 "turn_of" ["one", "other"] (spTurn K)) (Dside_of : Def P w K mg base 2 "side_of" ["line", "point"] (spSide K)) (Dcommon_across : Def P w K mg base 4 "common_across" ["one", "other"] (spTwo K acr fun l r => trn (less l.2 l.1) (less r.2 r.1) ≠ 0)) (Dcommon_along : Def P w K mg base 1 "common_along" ["one", "other"] (spTwo K alo fun _ _ => True)) :
    FnG P w K mg base CX0 5 f fd ["one", "other"] (spTwo K cmn fun _ _ => True) := by
  refine okG (k := 4) F sccommon (fun vs H Q E h => ?_) (fun cdv A outer s H vs Q E hr h => ?_)
  · obtain ⟨u, v, l, r, rfl, _⟩ := h
    rfl
  · obtain ⟨u, v, l, r, rfl, hL, hR, bl, br, _, q⟩ := h
    refine ⟨_, (pss_cons (ps_if (pt_cmpR op_ne (callD Dturn_of (hr.mono (by decide)) (pa_cons (callD Dstep_of (hr.mono (by decide)) (pa_cons (pv 0) pa_nil)) (pa_cons (callD Dstep_of (hr.mono (by decide)) (pa_cons (pv 1) pa_nil)) pa_nil))) pe_int (nomark _)) (pss_one (ps_ret (callD Dcommon_across (hr.mono (by decide)) (pa_cons (pv 0) (pa_cons (pv 1) pa_nil))))) pss_nil)
      (pss_cons (ps_if (pt_cmpR op_ne (callD Dside_of (hr.mono (by decide)) (pa_cons (pv 0) (pa_cons (pe_ix ix_tup (pv 1) pe_int (fun _ _ => rfl)) pa_nil))) pe_int (nomark _)) (pss_one (ps_ret (tupN pa_nil))) pss_nil)
      (pss_one (ps_ret (callD Dcommon_along (hr.mono (by decide)) (pa_cons (pv 0) (pa_cons (pv 1) pa_nil))))))), ?_⟩
    have b1 := bd_less bl.2 bl.1
    refine ⟨_, rfl, u, l, rfl, hL, fun w1 H1 s1 e1 => ⟨_, rfl, v, r, rfl, hR.same s1, fun w2 H2 s2 e2 => ⟨w1, w2, _, _, rfl, e1.same s2, e2, b1, rfl, _, rfl, ?_⟩⟩⟩
    have s12 := s1.trans s2
    unfold cmn at q
    by_cases h0 : trn (less l.2 l.1) (less r.2 r.1) = 0
    · rw [if_neg (fun z => z h0)] at q
      rw [h0]
      refine iteF ?_
      obtain ⟨b, x', y', eb, hS', hx', hy'⟩ := hR.same s12
      subst eb
      refine ⟨_, rfl, _, rfl, b, _, 0, x', rfl, rfl, hS', rfl, u, x', l, r.1, rfl, hL.same s12, hx', bl, fun H3 s3 => ⟨rfl, _, rfl, ?_⟩⟩
      by_cases h1 : trn (less l.2 l.1) (less r.1 l.1) = 0
      · rw [if_neg (fun z => z h1)] at q
        rw [h1]
        refine iteF ?_
        exact ⟨_, rfl, _, rfl, u, .ref b, l, r, rfl, hL.same (s12.trans s3), hR.same (s12.trans s3), bl, br, trivial, fun w H' s e => q w H' ((s12.trans s3).trans s) e⟩
      · rw [if_pos h1] at q
        have e0 : (!decide (V.int (trn (less l.2 l.1) (less r.1 l.1)) = V.int 0)) = true := by
          rw [decide_eq_false (fun z => h1 (V.int.inj z))]; rfl
        rw [e0]
        exact iteT ⟨Nat.zero_le _, fun p6 H6 n6 s6 g6 => q _ _ ((s12.trans s3).trans s6) ⟨p6, _, rfl, .inl (.inl g6), .nil⟩⟩
    · rw [if_pos h0] at q
      have e0 : (!decide (V.int (trn (less l.2 l.1) (less r.2 r.1)) = V.int 0)) = true := by
        rw [decide_eq_false (fun z => h0 (V.int.inj z))]; rfl
      rw [e0]
      exact iteT ⟨_, rfl, _, rfl, u, v, l, r, rfl, hL.same s12, hR.same s12, bl, br, h0, fun w H' s e => q w H' (s12.trans s) e⟩

theorem ok_law_due_along {f : Addr} {fd : FuncData} (F : Fun K "_law_due_along" "_law_due_along" s_law_due_along f fd) (T : Bt mg) :
    FnG P w K mg base CX0 1 f fd ["_law_one", "_law_other"] (spTwo K alo fun _ _ => True) := by
  refine okG (k := 0) F sc_law_due_along (fun vs H Q E h => ?_) (fun cdv A outer s H vs Q E hr h => ?_)
  · obtain ⟨u, v, l, r, rfl, _⟩ := h
    rfl
  · obtain ⟨u, v, l, r, rfl, hL, hR, bl, br, _, q⟩ := h
    refine ⟨_, (pss_cons (ps_set (i := 2) sc_law_due_along.nd rfl (.inl rfl) (pe_op op_catLN (pe_lc (own := [("_law_p", 3)]) (g := gName 3) (by rfl) sc_law_due_along.nd (pi_tup (pv 0)) (blkOk_by (own := [("_law_p", 3)]) (N := ["_law_one", "_law_other", "_law_some", "_law_p"]) (sc := defScope s_law_due_along) (by decide +kernel)) (fun _ _ _ _ _ => (pg_name (i := 3) sc_law_due_along.nd rfl (.inl rfl))) (fun _ _ _ _ _ => (pts_one (pt_chain (op_le2k (K := K) rfl hr.room.units) (op_le2k (K := K) rfl hr.room.units) (pe_callB (cr_min1k (K := K) rfl rfl hr.room.units) (by rfl) T.min (by decide +kernel) (pa_cons (pv 1) pa_nil)) (pv 3) (pe_callB (cr_max1k (K := K) rfl rfl hr.room.units) (by rfl) T.max (by decide +kernel) (pa_cons (pv 1) pa_nil))))) (fun _ _ _ _ _ => (pv 3))) (pe_lc (own := [("_law_p", 3)]) (g := gName 3) (by rfl) sc_law_due_along.nd (pi_tup (pv 1)) (blkOk_by (own := [("_law_p", 3)]) (N := ["_law_one", "_law_other", "_law_some", "_law_p"]) (sc := defScope s_law_due_along) (by decide +kernel)) (fun _ _ _ _ _ => (pg_name (i := 3) sc_law_due_along.nd rfl (.inl rfl))) (fun _ _ _ _ _ => (pts_one (pt_chain (op_le2k (K := K) rfl hr.room.units) (op_le2k (K := K) rfl hr.room.units) (pe_callB (cr_min1k (K := K) rfl rfl hr.room.units) (by rfl) T.min (by decide +kernel) (pa_cons (pv 0) pa_nil)) (pv 3) (pe_callB (cr_max1k (K := K) rfl rfl hr.room.units) (by rfl) T.max (by decide +kernel) (pa_cons (pv 0) pa_nil))))) (fun _ _ _ _ _ => (pv 3)))))
      (pss_cons (ps_set (i := 2) sc_law_due_along.nd rfl (.inl rfl) (pe_callB (cr_sortedS2 rfl hr.room.units) (by rfl) T.sorted (by decide +kernel) (pa_cons (pe_callTy (cr_setN rfl hr.room.units) (by rfl) T.set (by decide +kernel) (pa_cons (pv 2) pa_nil)) pa_nil)))
      (pss_one (ps_ret (pe_callTy call_tuple_ofN (by rfl) T.tuple (by decide +kernel) (pa_cons (pe_lc (own := [("_law_p", 3)]) (g := gName 3) (tt := tYes) (by rfl) sc_law_due_along.nd (pi_list (pe_op op_catLN (pe_slice sl_listN (pv 2) po_none (po_some pe_int)) (pe_slice sl_listN (pe_slice sl_listN (pv 2) (po_some pe_int) po_none) (po_some (pe_un un_neg pe_int)) po_none))) (blkOk_by (own := [("_law_p", 3)]) (N := ["_law_one", "_law_other", "_law_some", "_law_p"]) (sc := defScope s_law_due_along) (by decide +kernel)) (fun _ _ _ _ _ => (pg_name (i := 3) sc_law_due_along.nd rfl (.inl rfl))) (fun _ _ _ _ _ => pts_nil) (fun _ _ _ _ _ => (pe_op (op_catTNk (K := K) rfl) (pv 3) (tupN (pa_cons pe_int pa_nil))))) pa_nil)))))), ?_⟩
    obtain ⟨a, x, y, rfl, hS, hx, hy⟩ := hL
    obtain ⟨b, x', y', rfl, hS', hx', hy'⟩ := hR
    have aL : AllAt (At2 K H) [x, y] [l.1, l.2] := .cons hx (.cons hy .nil)
    refine ⟨_, rfl, a, rfl, ⟨_, hS⟩, fun pA npA => ?_⟩
    refine lcT (K := K) (a := a) (xs := _) (fun i Hx => Same H Hx ∧ ∃ ks, Hx pA = some (.lst (ks.map fun q => V.ref q.1)) ∧ Sel K H [l.1, l.2] r i ks) npA (fun Hx e1 e2 => ⟨e1, [], e2, .nil⟩) (fun i Hx _ z => seT z.1 hS) (fun i z Hx hz w => ?_) (fun HA z => ?_)
    · obtain ⟨t1, ks, t2, t3⟩ := w
      obtain ⟨pt, hpt, c, rfl, hc⟩ := AllAt.get aL hz
      have zc : At2 K Hx (.ref c) pt := ⟨c, rfl, seT t1 hc⟩
      have keep : ple (mn r.1 r.2) pt → ple pt (mx r.1 r.2) → ∃ acc, Hx pA = some (.lst acc) ∧ acc.length < sizeLine ∧
          (Same H (upd Hx pA (.lst (acc ++ [.ref c]))) ∧ ∃ ks, (upd Hx pA (.lst (acc ++ [.ref c]))) pA = some (.lst (ks.map fun q => V.ref q.1)) ∧ Sel K H [l.1, l.2] r (i + 1) ks) := fun k1 k2 => by
        have li : i < 2 := by
          have := (List.getElem?_eq_some_iff.mp hpt).1
          exact this
        refine ⟨_, t2, by rw [List.length_map]; exact small1000 (by have := t3.len; omega), fun b o e => ?_, ks ++ [(c, [pt.1, pt.2])], ?_, t3.keep hpt ⟨k1, k2⟩ hc⟩
        · rw [upd_ne (ne_of_none e npA)]; exact t1 _ _ e
        · rw [upd_same, List.map_append]; rfl
      refine ⟨rfl, _, rfl, b, x', y', _, _, rfl, seT t1 hS', hx'.same t1, hy'.same t1, fun w1 _ e1 => ⟨_, rfl, _, _, e1, zc, _, rfl, ite2 (fun c1 => ?_) (fun c1 => ⟨_, rfl, iteF ?_⟩)⟩⟩
      · have c1' : ple (mn r.1 r.2) pt := by unfold ple; simpa using c1
        refine ⟨_, rfl, b, x', y', _, _, rfl, seT t1 hS', hx'.same t1, hy'.same t1, fun w2 _ e2 => ⟨_, _, zc, e2, _, rfl, ite2 (fun c2 => ?_) (fun c2 => ?_)⟩⟩
        · have c2' : ple pt (mx r.1 r.2) := by unfold ple; simpa using c2
          exact ⟨_, rfl, keep c1' c2'⟩
        · refine ⟨t1, ks, t2, t3.drop hpt fun k => c2 ?_⟩
          have k2 := k.2
          unfold ple at k2
          show (!llt (mx r.1 r.2) pt) = true
          rw [k2]; rfl
      · refine ⟨t1, ks, t2, t3.drop hpt fun k => c1 ?_⟩
        have k1 := k.1
        unfold ple at k1
        show (!llt pt (mn r.1 r.2)) = true
        rw [k1]; rfl
    obtain ⟨tpA, kspA, epA, spA⟩ := z
    have aR : AllAt (At2 K HA) [x', y'] [r.1, r.2] := .cons (hx'.same tpA) (.cons (hy'.same tpA) .nil)
    have hSr := seT tpA hS'
    have hSl := seT tpA hS
    have hx2 := hx.same tpA
    have hy2 := hy.same tpA
    refine ⟨_, rfl, b, rfl, ⟨_, hSr⟩, fun pB npB => ?_⟩
    refine lcT (K := K) (a := b) (xs := _) (fun i Hx => Same HA Hx ∧ ∃ ks, Hx pB = some (.lst (ks.map fun q => V.ref q.1)) ∧ Sel K HA [r.1, r.2] l i ks) npB (fun Hx e1 e2 => ⟨e1, [], e2, .nil⟩) (fun i Hx _ z => seT z.1 hSr) (fun i z Hx hz w => ?_) (fun HB z => ?_)
    · obtain ⟨t1, ks, t2, t3⟩ := w
      obtain ⟨pt, hpt, c, rfl, hc⟩ := AllAt.get aR hz
      have zc : At2 K Hx (.ref c) pt := ⟨c, rfl, seT t1 hc⟩
      have keep : ple (mn l.1 l.2) pt → ple pt (mx l.1 l.2) → ∃ acc, Hx pB = some (.lst acc) ∧ acc.length < sizeLine ∧
          (Same HA (upd Hx pB (.lst (acc ++ [.ref c]))) ∧ ∃ ks, (upd Hx pB (.lst (acc ++ [.ref c]))) pB = some (.lst (ks.map fun q => V.ref q.1)) ∧ Sel K HA [r.1, r.2] l (i + 1) ks) := fun k1 k2 => by
        have li : i < 2 := by
          have := (List.getElem?_eq_some_iff.mp hpt).1
          exact this
        refine ⟨_, t2, by rw [List.length_map]; exact small1000 (by have := t3.len; omega), fun b o e => ?_, ks ++ [(c, [pt.1, pt.2])], ?_, t3.keep hpt ⟨k1, k2⟩ hc⟩
        · rw [upd_ne (ne_of_none e npB)]; exact t1 _ _ e
        · rw [upd_same, List.map_append]; rfl
      refine ⟨rfl, _, rfl, a, x, y, _, _, rfl, seT t1 hSl, hx2.same t1, hy2.same t1, fun w1 _ e1 => ⟨_, rfl, _, _, e1, zc, _, rfl, ite2 (fun c1 => ?_) (fun c1 => ⟨_, rfl, iteF ?_⟩)⟩⟩
      · have c1' : ple (mn l.1 l.2) pt := by unfold ple; simpa using c1
        refine ⟨_, rfl, a, x, y, _, _, rfl, seT t1 hSl, hx2.same t1, hy2.same t1, fun w2 _ e2 => ⟨_, _, zc, e2, _, rfl, ite2 (fun c2 => ?_) (fun c2 => ?_)⟩⟩
        · have c2' : ple pt (mx l.1 l.2) := by unfold ple; simpa using c2
          exact ⟨_, rfl, keep c1' c2'⟩
        · refine ⟨t1, ks, t2, t3.drop hpt fun k => c2 ?_⟩
          have k2 := k.2
          unfold ple at k2
          show (!llt (mx l.1 l.2) pt) = true
          rw [k2]; rfl
      · refine ⟨t1, ks, t2, t3.drop hpt fun k => c1 ?_⟩
        have k1 := k.1
        unfold ple at k1
        show (!llt pt (mn l.1 l.2)) = true
        rw [k1]; rfl
    obtain ⟨tpB, kspB, epB, spB⟩ := z
    have selA : ∀ p, (∃ q ∈ kspA, pr q = p) ↔ (p = l.1 ∨ p = l.2) ∧ within p r := spA.two
    have selB : ∀ p, (∃ q ∈ kspB, pr q = p) ↔ (p = r.1 ∨ p = r.2) ∧ within p l := spB.two
    have lA := spA.len
    have lB := spB.len
    have lA2 : kspA.length ≤ 2 := lA
    have lB2 : kspB.length ≤ 2 := lB
    refine ⟨pA, pB, _, _, rfl, rfl, tpB _ _ epA, epB, by rw [List.length_map, List.length_map]; exact Nat.le_of_lt (small1000 (by omega)), fun p3 H3 n3 s3 g3 => ?_⟩
    have tup3 : ∀ q ∈ kspA ++ kspB, SqT K H3 q.1 (q.2.map V.int) ∧ q.2.length = 2 := fun q hq => by
      rcases List.mem_append.mp hq with z | z
      · exact ⟨seT ((tpA.trans tpB).trans s3) (spA.tup q z).1, (spA.tup q z).2⟩
      · exact ⟨seT (tpB.trans s3) (spB.tup q z).1, (spB.tup q z).2⟩
    -- sorted(set(..))
    refine ⟨_, rfl, p3, kspA ++ kspB, rfl, .inl (.inl (by rw [List.map_append]; exact g3)), fun q hq => (tup3 q hq).1, by rw [List.length_append]; omega, fun p4 H4 L4 s4 n4 e4 sub all => ?_⟩
    have tup4 : ∀ q ∈ L4, SqT K H4 q.1 (q.2.map V.int) ∧ q.2.length = 2 := fun q hq => ⟨seT s4 (tup3 q (sub q hq)).1, (tup3 q (sub q hq)).2⟩
    refine ⟨p4, L4, rfl, e4, fun q hq => (tup4 q hq).1, fun q hq => (tup4 q hq).2, fun L5 pm nd pw p5 H5 n5 s5 g5 => ?_⟩
    have tup5 : ∀ q ∈ L5, SqT K H5 q.1 (q.2.map V.int) ∧ q.2.length = 2 := fun q hq => ⟨seT s5 (tup4 q (pm.mem_iff.mp hq)).1, (tup4 q (pm.mem_iff.mp hq)).2⟩
    have memT : ∀ p, p ∈ L5.map pr ↔ inBoth l r p := fun p => by
      have e1 : p ∈ L5.map pr ↔ ∃ q ∈ kspA ++ kspB, pr q = p := by
        rw [List.mem_map]
        constructor
        · rintro ⟨q, hq, e⟩
          exact ⟨q, sub q (pm.mem_iff.mp hq), e⟩
        · rintro ⟨q, hq, e⟩
          obtain ⟨q2, hq2, e2⟩ := List.mem_map.mp (all q hq)
          refine ⟨q2, pm.mem_iff.mpr hq2, ?_⟩
          rw [← e]
          unfold pr
          rw [e2]
      rw [e1]
      unfold inBoth
      rw [← selA p, ← selB p]
      constructor
      · rintro ⟨q, hq, e⟩
        rcases List.mem_append.mp hq with z | z
        · exact .inl ⟨q, z, e⟩
        · exact .inr ⟨q, z, e⟩
      · rintro (⟨q, hq, e⟩ | ⟨q, hq, e⟩)
        · exact ⟨q, List.mem_append.mpr (.inl hq), e⟩
        · exact ⟨q, List.mem_append.mpr (.inr hq), e⟩
    have due := along_due l r (L5.map pr) (List.pairwise_map.mpr (pw.imp fun h => h)) (nodup_pr (fun q hq => (tup5 q hq).2) nd) memT
    rw [← due] at q
    clear due memT selA selB
    -- the first and the last
    refine ⟨_, rfl, 1, rfl, p5, _, rfl, .inl (.inl g5), fun p6 H6 n6 s6 g6 => ⟨_, rfl, 1, rfl, p5, _, rfl, .inl (.inl (s6 _ _ g5)), fun p7 H7 n7 s7 g7 => ⟨1, rfl, -1, rfl, p7, _, rfl, .inl (.inl g7), fun p8 H8 n8 s8 g8 => ?_⟩⟩⟩
    rw [cut_rest] at g7 g8
    rw [cut_last] at g8
    rw [cut_first] at g6
    obtain ⟨S, eS⟩ : ∃ S, S = L5.take 1 ++ (L5.drop 1).drop ((L5.drop 1).length - 1) := ⟨_, rfl⟩
    have lenS : S.length ≤ 8 := by
      rw [eS, List.length_append, List.length_take, List.length_drop, List.length_drop]
      omega
    have q : ∀ w H', Same H H' → AtS K H' w ((S.map pr).map one3) → Q w H' := by
      have e : S.map pr = (L5.map pr).take 1 ++ ((L5.map pr).drop 1).drop (((L5.map pr).drop 1).length - 1) := by
        rw [eS, List.map_append, List.map_take, List.map_drop, List.map_drop, List.length_drop, List.length_drop, List.length_map]
      rw [e]
      exact q
    refine ⟨p6, p8, _, _, rfl, rfl, (s7.trans s8) _ _ g6, g8, ?_, fun p9 H9 n9 s9 g9 => ?_⟩
    · rw [List.length_take, List.length_drop, List.length_drop, List.length_map]
      exact Nat.le_of_lt (small1000 (by omega))
    have eL : (L5.map fun q => V.ref q.1).take 1 ++ ((L5.map fun q => V.ref q.1).drop 1).drop (((L5.map fun q => V.ref q.1).drop 1).length - 1) = S.map fun q => V.ref q.1 := by
      rw [eS, List.map_append, List.map_take, List.map_drop, List.map_drop, List.length_drop, List.length_drop, List.length_map]
    rw [eL] at g9
    have t9 := (((s6.trans s7).trans s8).trans s9)
    have tup9 : ∀ q ∈ S, SqT K H9 q.1 (q.2.map V.int) ∧ q.2.length = 2 := fun q hq => by
      have hm : q ∈ L5 := by
        rw [eS] at hq
        rcases List.mem_append.mp hq with z | z
        · exact List.mem_of_mem_take z
        · exact List.mem_of_mem_drop (List.mem_of_mem_drop z)
      exact ⟨seT t9 (tup5 q hm).1, (tup5 q hm).2⟩
    refine ⟨p9, rfl, ⟨_, .inl (.inl g9)⟩, fun pD nD => ?_⟩
    refine lcL (K := K) (a := p9) (xs := S.map fun q => V.ref q.1) (fun i H' => Same H9 H' ∧ ∃ ws, H' pD = some (.lst ws) ∧ AllAt (At3 K H') ws (((S.map pr).take i).map one3)) nD (fun H' e1 e2 => ⟨e1, [], e2, .nil⟩) (fun i H' _ z => .inl (.inl (z.1 _ _ g9))) (fun i z H' hz w => ?_) (fun H10 z => ?_)
    · obtain ⟨t1, ws, t2, t3⟩ := w
      rw [List.getElem?_map] at hz
      cases hq : S[i]? with
      | none => rw [hq] at hz; cases hz
      | some k =>
        rw [hq] at hz
        cases hz
        obtain ⟨c1, c2⟩ := tup9 k (List.mem_of_getElem? hq)
        rw [pr_ints c2] at c1
        refine ⟨rfl, _, rfl, (by show 1 ≤ sizeLine; decide), fun p11 H11 n11 s11 g11 => ⟨k.1, p11, _, _, rfl, rfl, seT (t1.trans s11) c1, .inl (.inl g11), by simp, by simp, (by show 3 ≤ sizeLine; decide), fun p12 H12 n12 s12 g12 => ?_⟩⟩
        have n12' : H' p12 = none := by
          cases z : H' p12 with
          | none => rfl
          | some o => rw [s11 _ _ z] at n12; cases n12
        have := acc3 (K := K) (t := one3 (pr k)) nD t1 t2 t3 (s11.trans s12) n12' g12 (by rw [List.length_map, List.length_take, List.length_map]; omega)
        rw [List.take_add_one, List.getElem?_map, hq, List.map_append]
        exact this
    · obtain ⟨t1, ws, t2, t3⟩ := z
      rw [List.length_map, show S.length = (S.map pr).length from (List.length_map _).symm, List.take_length] at t3
      exact ⟨pD, ws, rfl, .inl (.inl t2), fun p13 H13 n13 s13 g13 => q _ _ (((((((tpA.trans tpB).trans s3).trans s4).trans s5).trans t9).trans t1).trans s13) ⟨p13, ws, rfl, .inl (.inl g13), t3.map fun _ _ z => z.same s13⟩⟩

theorem ok_law_due {f : Addr} {fd : FuncData} (F : Fun K "_law_due" "_law_due" s_law_due f fd) (T : Bt mg) (D_law_less : Def P w K mg base 1 "_law_less" ["_law_one", "_law_other"] (spLess K)) (D_law_turn : Def P w K mg base 1 "_law_turn" ["_law_one", "_law_other"] (spTurn K)) (D_law_lowest : Def P w K mg base 2 "_law_lowest" ["_law_n", "_law_m", "_law_d"] (spLowest K)) (D_law_due_along : Def P w K mg base 1 "_law_due_along" ["_law_one", "_law_other"] (spTwo K alo fun _ _ => True)) :
    FnG P w K mg base CX0 3 f fd ["_law_one", "_law_other"] (spTwo K cmn fun _ _ => True) := by
  refine okG (k := 2) F sc_law_due (fun vs H Q E h => ?_) (fun cdv A outer s H vs Q E hr h => ?_)
  · obtain ⟨u, v, l, r, rfl, _⟩ := h
    rfl
  · obtain ⟨u, v, l, r, rfl, hL, hR, bl, br, _, q⟩ := h
    refine ⟨_, (pss_cons (ps_asg (tupN (pa_cons (pv 0) (pa_cons (pv 1) pa_nil))) (pg_tup (by rfl) (pgs_cons (pg_tup (by rfl) (pgs_cons (pg_name (i := 2) sc_law_due.nd rfl (.inl rfl)) (pgs_cons (pg_name (i := 3) sc_law_due.nd rfl (.inl rfl)) pgs_nil))) (pgs_cons (pg_tup (by rfl) (pgs_cons (pg_name (i := 4) sc_law_due.nd rfl (.inl rfl)) (pgs_cons (pg_name (i := 5) sc_law_due.nd rfl (.inl rfl)) pgs_nil))) pgs_nil))))
      (pss_cons (ps_par3 (i := 6) (j := 7) (l := 8) (by rfl) sc_law_due.nd rfl rfl rfl (by decide) (by decide) (by decide) rfl rfl rfl (pa_cons (callD D_law_less (hr.mono (by decide)) (pa_cons (pv 3) (pa_cons (pv 2) pa_nil))) (pa_cons (callD D_law_less (hr.mono (by decide)) (pa_cons (pv 5) (pa_cons (pv 4) pa_nil))) (pa_cons (callD D_law_less (hr.mono (by decide)) (pa_cons (pv 4) (pa_cons (pv 2) pa_nil))) pa_nil))) (by rfl))
      (pss_cons (ps_set (i := 9) sc_law_due.nd rfl (.inl rfl) (callD D_law_turn (hr.mono (by decide)) (pa_cons (pv 6) (pa_cons (pv 7) pa_nil))))
      (pss_cons (ps_if (pt_cmpR op_eq (pv 9) pe_int (nomark _)) (pss_one (ps_ret (pe_ifExp (pt_cmpR op_eq (callD D_law_turn (hr.mono (by decide)) (pa_cons (pv 8) (pa_cons (pv 6) pa_nil))) pe_int (nomark _)) (callD D_law_due_along (hr.mono (by decide)) (pa_cons (pv 0) (pa_cons (pv 1) pa_nil))) (tupN pa_nil)))) pss_nil)
      (pss_cons (ps_set (i := 10) sc_law_due.nd rfl (.inl rfl) (pe_ix ix_list (lstN (pa_cons (pe_un un_neg pe_int) (pa_cons pe_int pa_nil))) (pe_callTy call_int1 (by rfl) T.int (by decide +kernel) (pa_cons (pe_cmpR op_gt (pv 9) pe_int (nomark _)) pa_nil)) (fun _ _ => rfl)))
      (pss_cons (ps_set (i := 9) sc_law_due.nd rfl (.inl rfl) (pe_op op_mul (pv 9) (pv 10)))
      (pss_cons (ps_set (i := 11) sc_law_due.nd rfl (.inl rfl) (pe_op op_mul (callD D_law_turn (hr.mono (by decide)) (pa_cons (pv 8) (pa_cons (pv 7) pa_nil))) (pv 10)))
      (pss_cons (ps_if (PW.pt (pw_or (pt_not (pt_chain op_le op_le pe_int (pv 11) (pv 9))) (pw_or1 (pt_not (pt_chain op_le op_le pe_int (pe_op op_mul (callD D_law_turn (hr.mono (by decide)) (pa_cons (pv 8) (pa_cons (pv 6) pa_nil))) (pv 10)) (pv 9)))))) (pss_one (ps_ret (tupN pa_nil))) pss_nil)
      (pss_one (ps_ret (tupN (pa_cons (callD D_law_lowest (hr.mono (by decide)) (pa_cons (pe_op op_add (pe_op op_mul (pe_ix ix_tup (pv 2) pe_int (fun _ _ => rfl)) (pv 9)) (pe_op op_mul (pe_ix ix_tup (pv 6) pe_int (fun _ _ => rfl)) (pv 11))) (pa_cons (pe_op op_add (pe_op op_mul (pe_ix ix_tup (pv 2) pe_int (fun _ _ => rfl)) (pv 9)) (pe_op op_mul (pe_ix ix_tup (pv 6) pe_int (fun _ _ => rfl)) (pv 11))) (pa_cons (pv 9) pa_nil)))) pa_nil)))))))))))), ?_⟩
    have b1 := bd_less bl.2 bl.1
    have b2 := bd_less br.2 br.1
    have b3 := bd_less br.1 bl.1
    have t1 := trn_lt b1 b2
    have ba := bl.1
    obtain ⟨a, x, y, ea, hS, hx, hy⟩ := id hL
    obtain ⟨b, x', y', eb, hS', hx', hy'⟩ := id hR
    subst ea eb
    refine ⟨_, rfl, _, rfl, (by show 2 ≤ sizeLine; decide), fun p1 H1 n1 s1 g1 => ⟨p1, _, rfl, .inl (.inl g1), rfl, _, _, rfl, a, _, rfl, seT s1 hS, rfl, _, _, rfl, _, _, rfl, rfl, _, _, rfl, b, _, rfl, seT s1 hS', rfl, _, _, rfl, _, _, rfl, rfl, rfl, ?_⟩⟩
    refine ⟨_, rfl, _, rfl, y, x, l.2, l.1, rfl, hy.same s1, hx.same s1, fun w1 H2 s2 e2 => ⟨_, rfl, _, rfl, y', x', r.2, r.1, rfl, (hy'.same s1).same s2, (hx'.same s1).same s2, fun w2 H3 s3 e3 => ?_⟩⟩
    have s13 := (s1.trans s2).trans s3
    refine ⟨_, rfl, _, rfl, x', x, r.1, l.1, rfl, hx'.same s13, hx.same s13, fun w3 H4 s4 e4 => ⟨_, _, _, rfl, ?_⟩⟩
    have s14 := s13.trans s4
    have f1 := (e2.same s3).same s4
    have f2 := e3.same s4
    have hL4 := hL.same s14
    have hR4 := hR.same s14
    refine ⟨_, rfl, _, rfl, w1, w2, _, _, rfl, f1, f2, b1, ?_⟩
    refine ⟨_, rfl, rfl, _, rfl, ?_⟩
    unfold cmn at q
    by_cases h0 : trn (less l.2 l.1) (less r.2 r.1) = 0
    · rw [if_neg (fun z => z h0)] at q
      rw [h0]
      refine iteT ⟨_, rfl, _, rfl, w3, w1, _, _, rfl, e4, f1, b3, rfl, _, rfl, ?_⟩
      rw [trn_neg]
      by_cases h1 : trn (less l.2 l.1) (less r.1 l.1) = 0
      · rw [if_neg (fun z => z h1)] at q
        rw [h1]
        exact iteT ⟨_, rfl, _, rfl, .ref a, .ref b, l, r, rfl, hL4, hR4, bl, br, trivial, fun w H' s e => q w H' (s14.trans s) e⟩
      · rw [if_pos h1] at q
        have e0 : decide (V.int (-trn (less l.2 l.1) (less r.1 l.1)) = V.int 0) = false := decide_eq_false (fun z => h1 (by have := V.int.inj z; omega))
        rw [e0]
        exact iteF ⟨Nat.zero_le _, fun p6 H6 n6 s6 g6 => q _ _ (s14.trans s6) ⟨p6, _, rfl, .inl (.inl g6), .nil⟩⟩
    · rw [if_pos h0] at q
      have e0 : decide (V.int (trn (less l.2 l.1) (less r.2 r.1)) = V.int 0) = false := decide_eq_false (fun z => h0 (V.int.inj z))
      rw [e0]
      refine iteF ⟨1, rfl, (by show 2 ≤ sizeLine; decide), fun pm H5 n5 s5 g5 => ⟨_, rfl, _, _, rfl, rfl, .inr ⟨_, rfl, pm, _, _, .int (kfs l r), rfl, rfl, .inl (.inl g5), ?_, ?_⟩⟩⟩
      · by_cases hp : 0 < trn (less l.2 l.1) (less r.2 r.1)
        · have ek : kfs l r = 1 := if_neg (by omega)
          rw [decide_eq_true hp, ek]
          rfl
        · have ek : kfs l r = -1 := if_pos (by omega)
          rw [decide_eq_false hp, ek]
          rfl
      have kb : -(2 ^ 64) < kfs l r ∧ kfs l r < 2 ^ 64 := by unfold kfs; split <;> omega
      have s15 := s14.trans s5
      have hpos : 0 < trn (less l.2 l.1) (less r.2 r.1) * kfs l r := klm_pos l r h0
      have hb : (trn (less l.2 l.1) (less r.2 r.1) * kfs l r).natAbs < 2 ^ 200 := by
        unfold kfs
        split <;> omega
      have key : ∀ (M N L S : Int), M = trn (less l.2 l.1) (less r.2 r.1) → N = trn (less r.1 l.1) (less r.2 r.1) → L = trn (less r.1 l.1) (less l.2 l.1) → S = kfs l r →
          ((0 ≤ N * S ∧ N * S ≤ M * S) ∧ (0 ≤ L * S ∧ L * S ≤ M * S) → acr l r = [sp3 (M * S * l.1.1 + N * S * (l.2.1 - l.1.1)) (M * S * l.1.2 + N * S * (l.2.2 - l.1.2)) (M * S)]) ∧
          (¬ ((0 ≤ N * S ∧ N * S ≤ M * S) ∧ (0 ≤ L * S ∧ L * S ≤ M * S)) → acr l r = []) := by
        rintro _ _ _ _ rfl rfl rfl rfl
        exact ⟨fun z => if_pos z, fun z => if_neg z⟩
      clear e0 t1
      generalize hS : kfs l r = S at kb hpos hb ⊢
      generalize hM : trn (less l.2 l.1) (less r.2 r.1) = M at hpos hb h0 ⊢
      refine ⟨_, rfl, _, rfl, _, _, rfl, rfl, .inr (by omega), ?_⟩
      refine ⟨_, rfl, _, rfl, w3, w2, _, _, rfl, e4.same s5, f2.same s5, b3, ?_⟩
      generalize hN : trn (less r.1 l.1) (less r.2 r.1) = N
      refine ⟨_, rfl, _, _, rfl, rfl, .inr (by omega), ?_⟩
      have fin : ∀ {H6 : Hp}, H6 = H5 → acr l r = [] → (0 : Nat) ≤ sizeLine ∧ New H6 (.tup []) Q := fun {H6} e ea => ⟨Nat.zero_le _, fun p6 H7 n6 s6 g6 => q _ _ (s15.trans (by rw [← e]; exact s6)) (by rw [ea]; exact ⟨p6, _, rfl, .inl (.inl g6), .nil⟩)⟩
      have key2 := fun L (hL : L = trn (less r.1 l.1) (less l.2 l.1)) => key M N L S hM.symm hN.symm hL hS.symm
      clear key
      by_cases c1 : 0 ≤ N * S ∧ N * S ≤ M * S
      · refine ⟨_, rfl, _, _, rfl, rfl, _, rfl, ?_⟩
        rw [decide_eq_true c1.1]
        refine iteT ⟨_, rfl, _, _, rfl, rfl, _, rfl, ?_⟩
        rw [decide_eq_true c1.2]
        refine iteF ⟨_, rfl, _, rfl, w3, w1, _, _, rfl, e4.same s5, f1.same s5, b3, ?_⟩
        have key3 := key2 _ rfl
        revert key3
        generalize trn (less r.1 l.1) (less l.2 l.1) = L
        intro key3
        refine ⟨_, rfl, _, _, rfl, rfl, .inr (by omega), _, _, rfl, rfl, _, rfl, ?_⟩
        by_cases c2 : 0 ≤ L * S ∧ L * S ≤ M * S
        · have ea := key3.1 ⟨c1, c2⟩
          rw [ea] at q
          clear fin key3 key2
          rw [decide_eq_true c2.1]
          refine iteT ⟨_, rfl, _, _, rfl, rfl, _, rfl, ?_⟩
          rw [decide_eq_true c2.2]
          refine iteF ?_
          obtain ⟨c, ec, hc⟩ := (hx.same s15)
          obtain ⟨w, ew, hw⟩ := (f1.same s5)
          subst ec ew
          clear c1 c2 hN hM hS kb h0
          unfold BdP at b1
          unfold BdC at ba
          have m1 : CMul l.1.1 (M * S) := .inl (by omega)
          have m2 : CMul l.1.2 (M * S) := .inl (by omega)
          have m3 : CMul (less l.2 l.1).1 (N * S) := .inl (by omega)
          have m4 : CMul (less l.2 l.1).2 (N * S) := .inl (by omega)
          refine ⟨_, rfl, c, _, 0, _, rfl, rfl, hc, rfl, ?_⟩
          refine ⟨_, rfl, _, _, rfl, rfl, m1, ?_⟩
          refine ⟨_, rfl, w, _, 0, _, rfl, rfl, hw, rfl, ?_⟩
          refine ⟨_, rfl, _, _, rfl, rfl, m3, ?_⟩
          refine ⟨_, _, rfl, rfl, ?_⟩
          refine ⟨_, rfl, c, _, 1, _, rfl, rfl, hc, rfl, ?_⟩
          refine ⟨_, rfl, _, _, rfl, rfl, m2, ?_⟩
          refine ⟨_, rfl, w, _, 1, _, rfl, rfl, hw, rfl, ?_⟩
          refine ⟨_, rfl, _, _, rfl, rfl, m4, ?_⟩
          refine ⟨_, _, rfl, rfl, ?_⟩
          refine ⟨_, rfl, _, _, M * S, rfl, hpos, hb, fun w6 H6 s6 e6 => ⟨(by show 1 ≤ sizeLine; decide), fun p7 H7 n7 s7 g7 => q _ _ ((s15.trans s6).trans s7) ⟨p7, _, rfl, .inl (.inl g7), .cons (At3.same ?_ s7) .nil⟩⟩⟩
          have e7 : sp3 (l.1.1 * (M * S) + (l.2.1 - l.1.1) * (N * S)) (l.1.2 * (M * S) + (l.2.2 - l.1.2) * (N * S)) (M * S) = sp3 (M * S * l.1.1 + N * S * (l.2.1 - l.1.1)) (M * S * l.1.2 + N * S * (l.2.2 - l.1.2)) (M * S) := by
            rw [Int.mul_comm l.1.1, Int.mul_comm l.1.2, Int.mul_comm _ (N * S), Int.mul_comm _ (N * S)]
          rw [← e7]
          exact e6
        · have ea := key3.2 (fun z => c2 z.2)
          refine ite2 (fun e => ⟨_, rfl, _, _, rfl, rfl, _, rfl, ?_⟩) (fun e => ⟨_, rfl, iteT (fin rfl ea)⟩)
          rw [decide_eq_false (fun z => c2 ⟨of_decide_eq_true e, z⟩)]
          exact iteT (fin rfl ea)
      · have ea := (key2 _ rfl).2 (fun z => c1 z.1)
        refine ⟨_, rfl, _, _, rfl, rfl, _, rfl, ite2 (fun e => ⟨_, rfl, _, _, rfl, rfl, _, rfl, ?_⟩) (fun e => ⟨_, rfl, iteT (iteT (fin rfl ea))⟩)⟩
        rw [decide_eq_false (fun z => c1 ⟨of_decide_eq_true e, z⟩)]
        exact iteT (iteT (fin rfl ea))

theorem ok_law_right {f : Addr} {fd : FuncData} (F : Fun K "_law_right" "_law_right" s_law_right f fd) (T : Bt mg) (D_law_due : Def P w K mg base 3 "_law_due" ["_law_one", "_law_other"] (spTwo K cmn fun _ _ => True)) (Dcommon : Def P w K mg base 5 "common" ["one", "other"] (spTwo K cmn fun _ _ => True)) :
    FnG P w K mg base CX0 6 f fd ["_law_one", "_law_other"] (spRight K) := by
  refine okG (k := 5) F sc_law_right (fun vs H Q E h => ?_) (fun cdv A outer s H vs Q E hr h => ?_)
  · obtain ⟨u, v, l, r, rfl, _⟩ := h
    rfl
  · obtain ⟨u, v, l, r, rfl, hL, hR, bl, br, nl, nr_, q⟩ := h
    refine ⟨_, (pss_cons (ps_set (i := 2) sc_law_right.nd rfl (.inl rfl) (pe_callB (call_repr hr.gd hr.room.units) (by rfl) T.repr (by decide +kernel) (pa_cons (callD D_law_due (hr.mono (by decide)) (pa_cons (pv 0) (pa_cons (pv 1) pa_nil))) pa_nil)))
      (pss_cons (ps_for PassesOwn.never rfl (pi_list (lstN (pa_cons (tupN (pa_cons (pv 0) (pa_cons (pv 1) pa_nil))) (pa_cons (tupN (pa_cons (pv 1) (pa_cons (pv 0) pa_nil))) (pa_cons (tupN (pa_cons (pe_revT (pv 0)) (pa_cons (pv 1) pa_nil))) (pa_cons (tupN (pa_cons (pv 0) (pa_cons (pe_revT (pv 1)) pa_nil))) (pa_cons (tupN (pa_cons (pv 0) (pa_cons (pv 1) pa_nil))) pa_nil))))))) (pg_tup (by rfl) (pgs_cons (pg_name (i := 3) sc_law_right.nd rfl (.inl rfl)) (pgs_cons (pg_name (i := 4) sc_law_right.nd rfl (.inl rfl)) pgs_nil))) (pss_one (ps_if (pt_cmpR op_ne (pe_callB (call_repr hr.gd hr.room.units) (by rfl) T.repr (by decide +kernel) (pa_cons (callD Dcommon (hr.mono (by decide)) (pa_cons (pv 3) (pa_cons (pv 4) pa_nil))) pa_nil)) (pv 2) (nomark _)) (pss_one (ps_ret pe_bl)) pss_nil)))
      (pss_one (ps_ret pe_bl)))), ?_⟩
    have F := fine_cmn bl br
    refine ⟨_, rfl, _, rfl, u, v, l, r, rfl, hL, hR, bl, br, trivial, fun w1 H1 s1 e1 => ⟨w1, _, rfl, e1.dp, F, ?_⟩⟩
    have hL1 := hL.same s1
    have hR1 := hR.same s1
    obtain ⟨a, x, y, ea, hS, hx, hy⟩ := id hL1
    obtain ⟨b, x', y', eb, hS', hx', hy'⟩ := id hR1
    subst ea eb
    refine ⟨_, rfl, _, rfl, (by show 2 ≤ sizeLine; decide), fun p1 G1 n1 g1 f1 => ?_⟩
    refine ⟨_, rfl, _, rfl, (by show 2 ≤ sizeLine; decide), fun p2 G2 n2 g2 f2 => ?_⟩
    have g12 := g1.trans g2
    refine ⟨_, rfl, a, _, rfl, seT g12 hS, fun pa Ga na ga fa => ⟨_, rfl, (by show 2 ≤ sizeLine; decide), fun p3 G3 n3 g3 f3 => ?_⟩⟩
    have g13 := (g12.trans ga).trans g3
    refine ⟨_, rfl, _, rfl, b, _, rfl, seT g13 hS', fun pb Gb nb gb fb => ⟨(by show 2 ≤ sizeLine; decide), fun p4 G4 n4 g4 f4 => ?_⟩⟩
    refine ⟨_, rfl, _, rfl, (by show 2 ≤ sizeLine; decide), fun p5 G5 n5 g5 f5 => ⟨(by show 5 ≤ sizeLine; decide), fun p6 G6 n6 g6 f6 => ?_⟩⟩
    have z5 := g6
    have z4 := g5.trans z5
    have zb := g4.trans z4
    have z3 := gb.trans zb
    have za := g3.trans z3
    have z2 := ga.trans za
    have z1 := g2.trans z2
    have z0 := g1.trans z1
    have L0 := hL1.same z0
    have R0 := hR1.same z0
    have row : ∀ v ∈ [V.ref p1, .ref p2, .ref p3, .ref p4, .ref p5], ∃ t m m' l' r', v = .ref t ∧ SqT K G6 t [m, m'] ∧ AtL K G6 m l' ∧ AtL K G6 m' r' ∧ BdL l' ∧ BdL r' ∧ cmn l' r' = cmn l r := by
      intro v hv
      simp only [List.mem_cons, List.not_mem_nil, or_false] at hv
      rcases hv with rfl | rfl | rfl | rfl | rfl
      · exact ⟨p1, _, _, l, r, rfl, .inl (.inl (z1 _ _ f1)), L0, R0, bl, br, rfl⟩
      · exact ⟨p2, _, _, r, l, rfl, .inl (.inl (z2 _ _ f2)), R0, L0, br, bl, cmn_swap l r nl nr_⟩
      · exact ⟨p3, _, _, rev l, r, rfl, .inl (.inl (z3 _ _ f3)), ⟨pa, y, x, rfl, .inl (.inl (za _ _ fa)), hy.same z0, hx.same z0⟩, R0, bl.rev, br, cmn_rev l r⟩
      · exact ⟨p4, _, _, l, rev r, rfl, .inl (.inl (z4 _ _ f4)), L0, ⟨pb, y', x', rfl, .inl (.inl (zb _ _ fb)), hy'.same z0, hx'.same z0⟩, bl, br.rev, cmn_rev2 l r nl nr_⟩
      · exact ⟨p5, _, _, l, r, rfl, .inl (.inl (z5 _ _ f5)), L0, R0, bl, br, rfl⟩
    refine ⟨p6, rfl, ⟨_, .inl (.inl f6)⟩, for_list (K := K) (a := p6) (xs := [V.ref p1, .ref p2, .ref p3, .ref p4, .ref p5]) (fun _ σ H' => ∃ y3 y4, σ = [some (.ref a), some (.ref b), some (.str (PyData.shown (.tuple ((cmn l r).map d3)))), y3, y4] ∧ Same G6 H') ?_ ?_ ?_ ?_⟩
    · exact ⟨_, _, rfl, fun _ _ e => e⟩
    · rintro i σ H' _ ⟨_, _, _, e⟩
      exact .inl (.inl (e _ _ f6))
    · rintro i v σ H' hv ⟨y3, y4, rfl, e⟩
      obtain ⟨t, m, m', l', r', rfl, h1, h2, h3, h4, h5, h6⟩ := row v (List.mem_of_getElem? hv)
      refine ⟨t, _, rfl, seT e h1, rfl, _, _, rfl, _, _, rfl, rfl, ?_⟩
      refine ⟨_, rfl, _, rfl, m, m', l', r', rfl, h2.same e, h3.same e, h4, h5, trivial, fun w7 H7 s7 e7 => ?_⟩
      rw [h6] at e7
      refine ⟨w7, _, rfl, e7.dp, F, _, rfl, rfl, _, rfl, ?_⟩
      rw [decide_eq_true rfl]
      exact iteF ⟨_, _, rfl, e.trans s7⟩
    · rintro σ H' ⟨y3, y4, rfl, e⟩
      exact q _ ((s1.trans z0).trans e)

end
end Cl

set_option maxHeartbeats 0
namespace Cl
open PySem PySem.Spec PyProof.Rows L2

section
variable {P : Program} {w : World} {K : PySem.W.Frag} {mg : Str → Option Value} {base : Heap}

theorem ok_law_far {f : Addr} {fd : FuncData} (F : Fun K "_law_far" "_law_far" s_law_far f fd) (T : Bt mg) (D_law_draw : Def P w K mg base 1 "_law_draw" ["_law_deck_here", "_law_most"] spDraw) :
    FnG P w K mg base CX0 2 f fd ["_law_deck_here"] (spNum 400000) := by
  refine okG (k := 1) F sc_law_far (fun vs H Q E h => ?_) (fun cdv A outer s H vs Q E hr h => ?_)
  · obtain ⟨d, l, rfl, _⟩ := h
    rfl
  · obtain ⟨d, l, rfl, D, q⟩ := h
    refine ⟨_, (pss_cons (ps_set (i := 1) sc_law_far.nd rfl (.inl rfl) (pe_op op_add (pe_op op_mul (callD D_law_draw (hr.mono (by decide)) (pa_cons (pv 0) (pa_cons pe_int pa_nil))) pe_int) (callD D_law_draw (hr.mono (by decide)) (pa_cons (pv 0) (pa_cons pe_int pa_nil)))))
      (pss_one (ps_ret (pe_ix ix_list (lstN (pa_cons (pv 1) (pa_cons (pe_op op_sub pe_int (pv 1)) pa_nil))) (callD D_law_draw (hr.mono (by decide)) (pa_cons (pv 0) (pa_cons pe_int pa_nil))) (fun _ _ => rfl))))), ?_⟩
    refine ⟨.ref d, rfl, d, l, 400, rfl, by decide, by decide, D, fun f1 H1 a0 a1 S1 => ⟨_, _, rfl, rfl, .inr (by decide), .ref d, rfl, d, l, 1000, rfl, by decide, by decide, S1.deck, fun f2 H2 b0 b1 S2 => ⟨_, _, rfl, rfl, ?_⟩⟩⟩
    refine ⟨_, rfl, _, rfl, _, _, rfl, rfl, (by show 2 ≤ sizeLine; decide), fun p3 H3 n3 s3 g3 => ⟨.ref d, rfl, d, l, 2, rfl, by decide, by decide, (Step.of S2.deck s3).deck, fun i H4 i0 i1 S4 => ?_⟩⟩
    have np := S2.deck.nd n3
    have e4 := S4.at np.1 np.2 g3
    have S := ((S1.trans S2).trans (Step.of S2.deck s3)).trans S4
    obtain rfl | rfl : i = 0 ∨ i = 1 := by omega
    · exact ⟨p3, _, 0, _, rfl, rfl, .inl (.inl e4), rfl, q _ _ (by omega) (by omega) S⟩
    · exact ⟨p3, _, 1, _, rfl, rfl, .inl (.inl e4), rfl, q _ _ (by omega) (by omega) S⟩

theorem ok_law_step {f : Addr} {fd : FuncData} (F : Fun K "_law_step" "_law_step" s_law_step f fd) (T : Bt mg) (D_law_draw : Def P w K mg base 1 "_law_draw" ["_law_deck_here", "_law_most"] spDraw) :
    FnG P w K mg base CX0 2 f fd ["_law_deck_here"] (spNum 60000) := by
  refine okG (k := 1) F sc_law_step (fun vs H Q E h => ?_) (fun cdv A outer s H vs Q E hr h => ?_)
  · obtain ⟨d, l, rfl, _⟩ := h
    rfl
  · obtain ⟨d, l, rfl, D, q⟩ := h
    refine ⟨_, (pss_cons (ps_set (i := 1) sc_law_step.nd rfl (.inl rfl) (callD D_law_draw (hr.mono (by decide)) (pa_cons (pv 0) (pa_cons pe_int pa_nil))))
      (pss_cons (ps_par (i := 2) (j := 3) (by rfl) sc_law_step.nd rfl rfl (by decide) rfl rfl (pa_cons (pe_op op_sub (callD D_law_draw (hr.mono (by decide)) (pa_cons (pv 0) (pa_cons pe_int pa_nil))) pe_int) (pa_cons (pe_op op_add (pe_op op_mul (pe_op op_sub (callD D_law_draw (hr.mono (by decide)) (pa_cons (pv 0) (pa_cons pe_int pa_nil))) pe_int) pe_int) (callD D_law_draw (hr.mono (by decide)) (pa_cons (pv 0) (pa_cons pe_int pa_nil)))) pa_nil)) (by rfl))
      (pss_one (ps_ret (pe_ix ix_list (lstN (pa_cons (pv 2) (pa_cons (pe_op op_mul (pv 2) pe_int) (pa_cons (pv 3) pa_nil)))) (pv 1) (fun _ _ => rfl)))))), ?_⟩
    refine ⟨.ref d, rfl, d, l, 3, rfl, by decide, by decide, D, fun i H1 a0 a1 S1 => ?_⟩
    refine ⟨.ref d, rfl, d, l, 7, rfl, by decide, by decide, S1.deck, fun f1 H2 b0 b1 S2 => ⟨_, _, rfl, rfl, .ref d, rfl, d, l, 99, rfl, by decide, by decide, S2.deck, fun f2 H3 c0 c1 S3 => ⟨_, _, rfl, rfl, _, _, rfl, rfl, .inr (by decide), .ref d, rfl, d, l, 1000, rfl, by decide, by decide, S3.deck, fun f3 H4 d0 d1 S4 => ⟨_, _, rfl, rfl, _, _, rfl, ?_⟩⟩⟩⟩
    refine ⟨_, rfl, _, rfl, _, _, rfl, rfl, .inr (by decide), _, rfl, (by show 3 ≤ sizeLine; decide), fun p5 H5 n5 s5 g5 => ⟨_, rfl, ?_⟩⟩
    have S := (((S1.trans S2).trans S3).trans S4).trans (Step.of S4.deck s5)
    obtain rfl | rfl | rfl : i = 0 ∨ i = 1 ∨ i = 2 := by omega
    · exact ⟨p5, _, 0, _, rfl, rfl, .inl (.inl g5), rfl, q _ _ (by omega) (by omega) S⟩
    · exact ⟨p5, _, 1, _, rfl, rfl, .inl (.inl g5), rfl, q _ _ (by omega) (by omega) S⟩
    · exact ⟨p5, _, 2, _, rfl, rfl, .inl (.inl g5), rfl, q _ _ (by omega) (by omega) S⟩

theorem ok_law_steps {f : Addr} {fd : FuncData} (F : Fun K "_law_steps" "_law_steps" s_law_steps f fd) (T : Bt mg) (D_law_step : Def P w K mg base 2 "_law_step" ["_law_deck_here"] (spNum 60000)) :
    FnG P w K mg base CX0 3 f fd ["_law_deck_here"] (spStepsP K) := by
  refine okG (k := 2) F sc_law_steps (fun vs H Q E h => ?_) (fun cdv A outer s H vs Q E hr h => ?_)
  · obtain ⟨d, l, rfl, _⟩ := h
    rfl
  · obtain ⟨d, l, rfl, D, q⟩ := h
    refine ⟨_, (pss_cons (ps_par (i := 1) (j := 2) (by rfl) sc_law_steps.nd rfl rfl (by decide) rfl rfl (pa_cons (callD D_law_step (hr.mono (by decide)) (pa_cons (pv 0) pa_nil)) (pa_cons (callD D_law_step (hr.mono (by decide)) (pa_cons (pv 0) pa_nil)) pa_nil)) (by rfl))
      (pss_one (ps_ret (pe_ix ix_list (lstN (pa_cons (tupN (pa_cons (pv 1) (pa_cons (pv 2) pa_nil))) (pa_cons (tupN (pa_cons pe_int (pa_cons (pv 2) pa_nil))) pa_nil))) (pe_callTy call_int1 (by rfl) T.int (by decide +kernel) (pa_cons (pe_and (pe_cmpR op_eq (pv 1) pe_int (nomark _)) (pe_one (pe_cmpR op_eq (pv 2) pe_int (nomark _)))) pa_nil)) (fun _ _ => rfl))))), ?_⟩
    refine ⟨.ref d, rfl, d, l, rfl, D, fun x H1 a0 a1 S1 => ⟨.ref d, rfl, d, l, rfl, S1.deck, fun y H2 b0 b1 S2 => ⟨_, _, rfl, ?_⟩⟩⟩
    refine ⟨_, rfl, _, rfl, (by show 2 ≤ sizeLine; decide), fun p3 H3 n3 s3 g3 => ⟨_, rfl, (by show 2 ≤ sizeLine; decide), fun p4 H4 n4 s4 g4 => ⟨(by show 2 ≤ sizeLine; decide), fun p5 H5 n5 s5 g5 => ?_⟩⟩⟩
    have S := (S1.trans S2).trans (Step.of S2.deck ((s3.trans s4).trans s5))
    have k3 := (s4.trans s5) _ _ g3
    have k4 := s5 _ _ g4
    refine ⟨_, rfl, rfl, _, rfl, ?_⟩
    by_cases hx : x = 0
    · have ex : decide (V.int x = V.int 0) = true := decide_eq_true (by rw [hx])
      rw [ex]
      refine iteT ⟨_, rfl, rfl, .inr ⟨_, rfl, ?_⟩⟩
      by_cases hy : y = 0
      · have ey : decide (V.int y = V.int 0) = true := decide_eq_true (by rw [hy])
        rw [ey]
        exact ⟨p5, _, 1, .ref p4, rfl, rfl, .inl (.inl g5), rfl, q _ _ (1, y) S ⟨p4, rfl, .inl (.inl k4)⟩ (by unfold BdN; simp only; omega) (fun z => by have := congrArg Prod.fst z; simp only at this; omega)⟩
      · have ey : decide (V.int y = V.int 0) = false := decide_eq_false (fun z => hy (V.int.inj z))
        rw [ey]
        exact ⟨p5, _, 0, .ref p3, rfl, rfl, .inl (.inl g5), rfl, q _ _ (x, y) S ⟨p3, rfl, .inl (.inl k3)⟩ (by unfold BdN; simp only; omega) (fun z => hy (congrArg Prod.snd z))⟩
    · have ex : decide (V.int x = V.int 0) = false := decide_eq_false (fun z => hx (V.int.inj z))
      rw [ex]
      exact iteF (.inr ⟨_, rfl, p5, _, 0, .ref p3, rfl, rfl, .inl (.inl g5), rfl, q _ _ (x, y) S ⟨p3, rfl, .inl (.inl k3)⟩ (by unfold BdN; simp only; omega) (fun z => hx (congrArg Prod.fst z))⟩)

theorem ok_law_wide {f : Addr} {fd : FuncData} (F : Fun K "_law_wide" "_law_wide" s_law_wide f fd) (T : Bt mg) (D_law_draw : Def P w K mg base 1 "_law_draw" ["_law_deck_here", "_law_most"] spDraw) :
    FnG P w K mg base CX0 2 f fd ["_law_deck_here"] (spNum 1000000) := by
  refine okG (k := 1) F sc_law_wide (fun vs H Q E h => ?_) (fun cdv A outer s H vs Q E hr h => ?_)
  · obtain ⟨d, l, rfl, _⟩ := h
    rfl
  · obtain ⟨d, l, rfl, D, q⟩ := h
    refine ⟨_, (pss_cons (ps_set (i := 1) sc_law_wide.nd rfl (.inl rfl) (callD D_law_draw (hr.mono (by decide)) (pa_cons (pv 0) (pa_cons pe_int pa_nil))))
      (pss_cons (ps_set (i := 2) sc_law_wide.nd rfl (.inl rfl) (pe_op op_add (pe_op op_mul (callD D_law_draw (hr.mono (by decide)) (pa_cons (pv 0) (pa_cons pe_int pa_nil))) pe_int) (callD D_law_draw (hr.mono (by decide)) (pa_cons (pv 0) (pa_cons pe_int pa_nil)))))
      (pss_one (ps_ret (pe_ix ix_list (lstN (pa_cons (pe_op op_pow pe_int pe_int) (pa_cons (pe_un un_neg (pe_op op_pow pe_int pe_int)) (pa_cons (pe_op op_sub (pe_op op_pow pe_int pe_int) (callD D_law_draw (hr.mono (by decide)) (pa_cons (pv 0) (pa_cons pe_int pa_nil)))) (pa_cons (pv 2) (pa_cons (pe_op op_sub pe_int (pv 2)) pa_nil)))))) (pv 1) (fun _ _ => rfl)))))), ?_⟩
    refine ⟨.ref d, rfl, d, l, 5, rfl, by decide, by decide, D, fun i H1 a0 a1 S1 => ?_⟩
    refine ⟨.ref d, rfl, d, l, 1000, rfl, by decide, by decide, S1.deck, fun f1 H2 b0 b1 S2 => ⟨_, _, rfl, rfl, .inr (by decide), .ref d, rfl, d, l, 1000, rfl, by decide, by decide, S2.deck, fun f2 H3 c0 c1 S3 => ⟨_, _, rfl, rfl, ?_⟩⟩⟩
    refine ⟨_, _, rfl, rfl, ⟨by decide, by decide, by decide⟩, _, _, rfl, rfl, ⟨by decide, by decide, by decide⟩, _, rfl, _, _, rfl, rfl, ⟨by decide, by decide, by decide⟩, .ref d, rfl, d, l, 3, rfl, by decide, by decide, S3.deck, fun f4 H4 d0 d1 S4 => ⟨_, _, rfl, rfl, _, rfl, _, rfl, _, _, rfl, rfl, (by show 5 ≤ sizeLine; decide), fun p5 H5 n5 s5 g5 => ⟨_, rfl, ?_⟩⟩⟩
    have S := (((S1.trans S2).trans S3).trans S4).trans (Step.of S4.deck s5)
    have e6 : (10 : Int) ^ (6 : Int).toNat = 1000000 := by decide
    obtain rfl | rfl | rfl | rfl | rfl : i = 0 ∨ i = 1 ∨ i = 2 ∨ i = 3 ∨ i = 4 := by omega
    · exact ⟨p5, _, 0, _, rfl, rfl, .inl (.inl g5), rfl, q _ _ (by rw [e6]; omega) (by rw [e6]; omega) S⟩
    · exact ⟨p5, _, 1, _, rfl, rfl, .inl (.inl g5), rfl, q _ _ (by rw [e6]; omega) (by rw [e6]; omega) S⟩
    · exact ⟨p5, _, 2, _, rfl, rfl, .inl (.inl g5), rfl, q _ _ (by rw [e6]; omega) (by rw [e6]; omega) S⟩
    · exact ⟨p5, _, 3, _, rfl, rfl, .inl (.inl g5), rfl, q _ _ (by omega) (by omega) S⟩
    · exact ⟨p5, _, 4, _, rfl, rfl, .inl (.inl g5), rfl, q _ _ (by omega) (by omega) S⟩

end
end Cl

set_option maxHeartbeats 0
namespace Cl
open PySem PySem.Spec PyProof.Rows L2

section
variable {P : Program} {w : World} {K : PySem.W.Frag} {mg : Str → Option Value} {base : Heap}

theorem ok_law_great_pair {f : Addr} {fd : FuncData} (F : Fun K "_law_great_pair" "_law_great_pair" s_law_great_pair f fd) (T : Bt mg) (D_law_draw : Def P w K mg base 1 "_law_draw" ["_law_deck_here", "_law_most"] spDraw) (D_law_far : Def P w K mg base 2 "_law_far" ["_law_deck_here"] (spNum 400000)) (D_law_steps : Def P w K mg base 3 "_law_steps" ["_law_deck_here"] (spStepsP K)) (D_law_unlike : Def P w K mg base 1 "_law_unlike" ["_law_one", "_law_other"] (spUnlike K)) :
    FnG P w K mg base CX0 4 f fd ["_law_deck_here"] (spPair K) := by
  refine okG (k := 3) F sc_law_great_pair (fun vs H Q E h => ?_) (fun cdv A outer s H vs Q E hr h => ?_)
  · obtain ⟨d, l, rfl, _⟩ := h
    rfl
  · obtain ⟨d, l, rfl, D, q⟩ := h
    refine ⟨_, (pss_cons (ps_set (i := 1) sc_law_great_pair.nd rfl (.inl rfl) (callD D_law_draw (hr.mono (by decide)) (pa_cons (pv 0) (pa_cons pe_int pa_nil))))
      (pss_cons (ps_par3 (i := 2) (j := 3) (l := 4) (by rfl) sc_law_great_pair.nd rfl rfl rfl (by decide) (by decide) (by decide) rfl rfl rfl (pa_cons (callD D_law_far (hr.mono (by decide)) (pa_cons (pv 0) pa_nil)) (pa_cons (callD D_law_far (hr.mono (by decide)) (pa_cons (pv 0) pa_nil)) (pa_cons (callD D_law_steps (hr.mono (by decide)) (pa_cons (pv 0) pa_nil)) pa_nil))) (by rfl))
      (pss_cons (ps_set (i := 5) sc_law_great_pair.nd rfl (.inl rfl) (pe_op op_add pe_int (callD D_law_draw (hr.mono (by decide)) (pa_cons (pv 0) (pa_cons pe_int pa_nil)))))
      (pss_cons (ps_set (i := 6) sc_law_great_pair.nd rfl (.inl rfl) (tupN (pa_cons (tupN (pa_cons (pv 2) (pa_cons (pv 3) pa_nil))) (pa_cons (tupN (pa_cons (pe_op op_add (pv 2) (pe_op op_mul (pv 5) (pe_ix ix_tup (pv 4) pe_int (fun _ _ => rfl)))) (pa_cons (pe_op op_add (pv 3) (pe_op op_mul (pv 5) (pe_ix ix_tup (pv 4) pe_int (fun _ _ => rfl)))) pa_nil))) pa_nil))))
      (pss_cons (ps_set (i := 7) sc_law_great_pair.nd rfl (.inl rfl) (callD D_law_draw (hr.mono (by decide)) (pa_cons (pv 0) (pa_cons (pe_op op_add (pv 5) pe_int) pa_nil))))
      (pss_cons (ps_set (i := 8) sc_law_great_pair.nd rfl (.inl rfl) (tupN (pa_cons (pe_op op_add (pv 2) (pe_op op_mul (pv 7) (pe_ix ix_tup (pv 4) pe_int (fun _ _ => rfl)))) (pa_cons (pe_op op_add (pv 3) (pe_op op_mul (pv 7) (pe_ix ix_tup (pv 4) pe_int (fun _ _ => rfl)))) pa_nil))))
      (pss_cons (ps_set (i := 9) sc_law_great_pair.nd rfl (.inl rfl) (callD D_law_steps (hr.mono (by decide)) (pa_cons (pv 0) pa_nil)))
      (pss_cons (ps_if (pt_cmpR op_eq (pv 1) pe_int (nomark _)) (pss_one (ps_ret (tupN (pa_cons (pv 6) (pa_cons (callD D_law_unlike (hr.mono (by decide)) (pa_cons (tupN (pa_cons (callD D_law_far (hr.mono (by decide)) (pa_cons (pv 0) pa_nil)) (pa_cons (callD D_law_far (hr.mono (by decide)) (pa_cons (pv 0) pa_nil)) pa_nil))) (pa_cons (tupN (pa_cons (callD D_law_far (hr.mono (by decide)) (pa_cons (pv 0) pa_nil)) (pa_cons (callD D_law_far (hr.mono (by decide)) (pa_cons (pv 0) pa_nil)) pa_nil))) pa_nil))) pa_nil))))) pss_nil)
      (pss_cons (ps_if (pt_cmpR op_eq (pv 1) pe_int (nomark _)) (pss_one (ps_ret (tupN (pa_cons (pv 6) (pa_cons (callD D_law_unlike (hr.mono (by decide)) (pa_cons (pv 8) (pa_cons (tupN (pa_cons (callD D_law_far (hr.mono (by decide)) (pa_cons (pv 0) pa_nil)) (pa_cons (callD D_law_far (hr.mono (by decide)) (pa_cons (pv 0) pa_nil)) pa_nil))) pa_nil))) pa_nil))))) pss_nil)
      (pss_cons (ps_if (pt_cmpR op_eq (pv 1) pe_int (nomark _)) (pss_one (ps_ret (tupN (pa_cons (pv 6) (pa_cons (tupN (pa_cons (tupN (pa_cons (pe_op op_sub (pe_ix ix_tup (pv 8) pe_int (fun _ _ => rfl)) (pe_ix ix_tup (pv 9) pe_int (fun _ _ => rfl))) (pa_cons (pe_op op_sub (pe_ix ix_tup (pv 8) pe_int (fun _ _ => rfl)) (pe_ix ix_tup (pv 9) pe_int (fun _ _ => rfl))) pa_nil))) (pa_cons (tupN (pa_cons (pe_op op_add (pe_ix ix_tup (pv 8) pe_int (fun _ _ => rfl)) (pe_ix ix_tup (pv 9) pe_int (fun _ _ => rfl))) (pa_cons (pe_op op_add (pe_ix ix_tup (pv 8) pe_int (fun _ _ => rfl)) (pe_ix ix_tup (pv 9) pe_int (fun _ _ => rfl))) pa_nil))) pa_nil))) pa_nil))))) pss_nil)
      (pss_cons (ps_if (pt_cmpR op_eq (pv 1) pe_int (nomark _)) (pss_one (ps_ret (tupN (pa_cons (pv 6) (pa_cons (tupN (pa_cons (pv 8) (pa_cons (tupN (pa_cons (pe_op op_add (pe_ix ix_tup (pv 8) pe_int (fun _ _ => rfl)) (pe_ix ix_tup (pv 4) pe_int (fun _ _ => rfl))) (pa_cons (pe_op op_add (pe_ix ix_tup (pv 8) pe_int (fun _ _ => rfl)) (pe_ix ix_tup (pv 4) pe_int (fun _ _ => rfl))) pa_nil))) pa_nil))) pa_nil))))) pss_nil)
      (pss_cons (ps_if (pt_cmpR op_eq (pv 1) pe_int (nomark _)) (pss_cons (ps_asg (tupN (pa_cons (pe_op op_sub (callD D_law_draw (hr.mono (by decide)) (pa_cons (pv 0) (pa_cons pe_int pa_nil))) pe_int) (pa_cons (pe_op op_sub (callD D_law_draw (hr.mono (by decide)) (pa_cons (pv 0) (pa_cons pe_int pa_nil))) pe_int) pa_nil))) (pg_tup (by rfl) (pgs_cons (pg_name (i := 10) sc_law_great_pair.nd rfl (.inr rfl)) (pgs_cons (pg_name (i := 11) sc_law_great_pair.nd rfl (.inr rfl)) pgs_nil))))
      (pss_one (ps_ret (tupN (pa_cons (pv 6) (pa_cons (pe_callTy call_tuple_ofN (by rfl) T.tuple (by decide +kernel) (pa_cons (pe_lc (own := [("_law_p", 12)]) (g := gName 12) (tt := tYes) (by rfl) sc_law_great_pair.nd (pi_tup (pv 6)) (blkOk_by (own := [("_law_p", 12)]) (N := ["_law_deck_here", "_law_way", "_law_x", "_law_y", "_law_some", "_law_many", "_law_one", "_law_at", "_law_on", "_law_other", "_law_dx", "_law_dy", "_law_p"]) (sc := defScope s_law_great_pair) (by decide +kernel)) (fun _ _ _ _ _ => (pg_name (i := 12) sc_law_great_pair.nd rfl (.inl rfl))) (fun _ _ _ _ _ => pts_nil) (fun _ _ _ _ _ => (tupN (pa_cons (pe_op op_add (pe_ix (ix_tupk (K := K) rfl) (pv 12) pe_int (fun _ _ => rfl)) (pv 10)) (pa_cons (pe_op op_add (pe_ix (ix_tupk (K := K) rfl) (pv 12) pe_int (fun _ _ => rfl)) (pv 11)) pa_nil))))) pa_nil)) pa_nil)))))) pss_nil)
      (pss_one (ps_ret (tupN (pa_cons (pv 6) (pa_cons (callD D_law_unlike (hr.mono (by decide)) (pa_cons (tupN (pa_cons (pe_ix ix_tup (pe_ix ix_tup (pv 6) pe_int (fun _ _ => rfl)) pe_int (fun _ _ => rfl)) (pa_cons (pe_op op_add (pe_ix ix_tup (pe_ix ix_tup (pv 6) pe_int (fun _ _ => rfl)) pe_int (fun _ _ => rfl)) pe_int) pa_nil))) (pa_cons (tupN (pa_cons (pe_ix ix_tup (pe_ix ix_tup (pv 6) pe_int (fun _ _ => rfl)) pe_int (fun _ _ => rfl)) (pa_cons (pe_op op_sub (pe_ix ix_tup (pe_ix ix_tup (pv 6) pe_int (fun _ _ => rfl)) pe_int (fun _ _ => rfl)) (callD D_law_draw (hr.mono (by decide)) (pa_cons (pv 0) (pa_cons pe_int pa_nil)))) pa_nil))) pa_nil))) pa_nil))))))))))))))))), ?_⟩
    refine ⟨.ref d, rfl, d, l, 6, rfl, by decide, by decide, D, fun way H1 w0 w1 S1 => ?_⟩
    refine ⟨.ref d, rfl, d, l, rfl, S1.deck, fun x H2 x0 x1 S2 => ⟨.ref d, rfl, d, l, rfl, S2.deck, fun y H3 y0 y1 S3 => ⟨.ref d, rfl, d, l, rfl, S3.deck, fun ws H4 s S4 es bs ns_ => ⟨_, _, _, rfl, ?_⟩⟩⟩⟩
    refine ⟨.ref d, rfl, d, l, 9, rfl, by decide, by decide, S4.deck, fun mo H5 m0 m1 S5 => ⟨_, _, rfl, rfl, ?_⟩⟩
    have S15 := (((S1.trans S2).trans S3).trans S4).trans S5
    obtain ⟨c, rfl, hc⟩ := es.step S5 S4.deck
    unfold BdN at bs
    have mul9 : ∀ k z : Int, 0 ≤ k → k ≤ 9 → -60000 ≤ z → z ≤ 60000 → -540000 ≤ k * z ∧ k * z ≤ 540000 := fun k z k0 k1 z0 z1 => by
      have a1 : k * z ≤ 9 * 60000 := by
        rcases Int.le_total 0 z with h | h
        · exact Int.mul_le_mul k1 z1 h (by omega)
        · have : k * z ≤ 0 := Int.mul_nonpos_of_nonneg_of_nonpos k0 h
          omega
      have a2 : -(k * z) ≤ 9 * 60000 := by
        rw [← Int.mul_neg]
        rcases Int.le_total 0 (-z) with h | h
        · exact Int.mul_le_mul k1 (by omega) h (by omega)
        · have : k * -z ≤ 0 := Int.mul_nonpos_of_nonneg_of_nonpos k0 h
          omega
      omega
    -- one
    refine ⟨_, rfl, _, rfl, (by show 2 ≤ sizeLine; decide), fun p6 H6 n6 s6 g6 => ?_⟩
    refine ⟨_, rfl, _, rfl, _, rfl, c, _, 0, _, rfl, rfl, seT s6 hc, rfl, _, _, rfl, rfl, .inl (by omega), _, _, rfl, rfl, _, rfl, _, rfl, _, rfl, c, _, 1, _, rfl, rfl, seT s6 hc, rfl, _, _, rfl, rfl, .inl (by omega), _, _, rfl, rfl, (by show 2 ≤ sizeLine; decide), fun p7 H7 n7 s7 g7 => ⟨(by show 2 ≤ sizeLine; decide), fun p8 H8 n8 s8 g8 => ?_⟩⟩
    have t8 := (s6.trans s7).trans s8
    have b1 := mul9 (1 + mo) s.1 (by omega) (by omega) (by omega) (by omega)
    have b2 := mul9 (1 + mo) s.2 (by omega) (by omega) (by omega) (by omega)
    obtain ⟨L1, hL1⟩ : ∃ L1 : Ln, L1 = ((x, y), (x + (1 + mo) * s.1, y + (1 + mo) * s.2)) := ⟨_, rfl⟩
    have aL : AtL K H8 (.ref p8) L1 := by rw [hL1]; exact ⟨p8, _, _, rfl, .inl (.inl g8), ⟨p6, rfl, .inl (.inl ((s7.trans s8) _ _ g6))⟩, ⟨p7, rfl, .inl (.inl (s8 _ _ g7))⟩⟩
    have gL : BdL L1 := by rw [hL1]; exact ⟨bdC_of (by unfold BdN; simp only; omega), bdC_of (by unfold BdN; simp only; omega)⟩
    have nL : L1.1 ≠ L1.2 := by
      rw [hL1]
      intro z
      have z1 := congrArg Prod.fst z
      have z2 := congrArg Prod.snd z
      simp only at z1 z2
      have e1 : (1 + mo) * s.1 = 0 := by omega
      have e2 : (1 + mo) * s.2 = 0 := by omega
      rcases Int.mul_eq_zero.mp e1 with w | w
      · omega
      rcases Int.mul_eq_zero.mp e2 with w' | w'
      · omega
      exact ns_ (Prod.ext w w')
    have D8 := (Step.of S5.deck t8).deck
    -- at, on
    refine ⟨.ref d, rfl, _, rfl, _, _, rfl, rfl, d, l, _, rfl, by omega, by omega, D8, fun a H9 a0 a1 S9 => ?_⟩
    have hc9 := stT S9 D8 (seT t8 hc)
    have aL9 := aL.step S9 D8
    have c1 := mul9 a s.1 (by omega) (by omega) (by omega) (by omega)
    have c2 := mul9 a s.2 (by omega) (by omega) (by omega) (by omega)
    refine ⟨_, rfl, _, rfl, _, rfl, c, _, 0, _, rfl, rfl, hc9, rfl, _, _, rfl, rfl, .inl (by omega), _, _, rfl, rfl, _, rfl, _, rfl, _, rfl, c, _, 1, _, rfl, rfl, hc9, rfl, _, _, rfl, rfl, .inl (by omega), _, _, rfl, rfl, (by show 2 ≤ sizeLine; decide), fun po H10 n10 s10 g10 => ?_⟩
    have D10 := (Step.of S9.deck s10).deck
    -- other
    refine ⟨.ref d, rfl, d, l, rfl, D10, fun wo H11 o S11 eo bo no => ?_⟩
    unfold BdN at bo
    have S911 := (Step.of S9.deck s10).trans S11
    have aL11 := aL9.step S911 S9.deck
    have hc11 := stT S911 S9.deck hc9
    have on11 : SqT K H11 po [.int (x + a * s.1), .int (y + a * s.2)] := stT S11 D10 (.inl (.inl g10))
    have S := ((S15.trans (Step.of S5.deck t8)).trans S9).trans S911
    obtain ⟨X, eX⟩ : ∃ X, X = x + a * s.1 := ⟨_, rfl⟩
    obtain ⟨Y, eY⟩ : ∃ Y, Y = y + a * s.2 := ⟨_, rfl⟩
    have on11 : SqT K H11 po [.int X, .int Y] := by rw [eX, eY]; exact on11
    have bX : -940000 ≤ X ∧ X ≤ 940000 := by omega
    have bY : -940000 ≤ Y ∧ Y ≤ 940000 := by omega
    have fin : ∀ {n : V} {r : Ln} {pp : Addr} {H12 H13 : Hp}, Step d l H11 H12 → Same H12 H13 → AtL K H12 n r → BdL r → r.1 ≠ r.2 → H13 pp = some (.tup [.ref p8, n]) → Q (.ref pp) H13 := fun {n r pp H12 H13} S12 s13 h1 b1 n1 e =>
      q _ _ L1 r ((S.trans S12).trans (Step.of S12.deck s13)) ⟨pp, _, _, rfl, .inl (.inl e), (aL11.step S12 S11.deck).same s13, h1.same s13⟩ ⟨gL, b1, nL, n1⟩
    have bu : ∀ {p q : Pt} {r : Ln}, BdN 1000000 p → BdN 1000000 q → r.1 = p → (r.2 = q ∨ r.2 = (p.1 + 1, p.2)) → BdL r := fun {p q r} h1 h2 e1 e2 =>
      ⟨bdC_of (by rw [e1]; unfold BdN at *; omega), bdC_of (by rcases e2 with z | z <;> rw [z] <;> unfold BdN at * <;> (try simp only) <;> omega)⟩
    refine ⟨_, rfl, rfl, _, rfl, ite2 (fun e => ?_) (fun e => ?_)⟩
    · -- any other line
      refine ⟨_, rfl, .ref d, rfl, d, l, rfl, S11.deck, fun x1 G1 u0 u1 T1 => ⟨.ref d, rfl, d, l, rfl, T1.deck, fun x2 G2 v0 v1 T2 => ⟨(by show 2 ≤ sizeLine; decide), fun q3 G3 m3 t3 h3 => ?_⟩⟩⟩
      have D3 := (Step.of T2.deck t3).deck
      refine ⟨.ref d, rfl, d, l, rfl, D3, fun x3 G4 u2 u3 T4 => ⟨.ref d, rfl, d, l, rfl, T4.deck, fun x4 G5 v2 v3 T5 => ⟨(by show 2 ≤ sizeLine; decide), fun q6 G6 m6 t6 h6 => ?_⟩⟩⟩
      have T35 := (T4.trans T5).trans (Step.of T5.deck t6)
      exact ⟨.ref q3, .ref q6, (x1, x2), (x3, x4), rfl, At2.step ⟨q3, rfl, .inl (.inl h3)⟩ T35 D3, ⟨q6, rfl, .inl (.inl h6)⟩, fun w G7 r t7 e7 r1 r2 r3 => ⟨(by show 2 ≤ sizeLine; decide), fun q8 G8 m8 t8 h8 =>
        fin ((((T1.trans T2).trans (Step.of T2.deck t3)).trans T35).trans (Step.of T35.deck t7)) t8 e7 (bu (by unfold BdN; simp only; omega) (by unfold BdN; simp only; omega) r1 r3) r2 h8⟩⟩
    refine ⟨_, rfl, rfl, _, rfl, ite2 (fun e => ?_) (fun e => ?_)⟩
    · -- from one of its points
      refine ⟨_, rfl, _, rfl, .ref d, rfl, d, l, rfl, S11.deck, fun x1 G1 u0 u1 T1 => ⟨.ref d, rfl, d, l, rfl, T1.deck, fun x2 G2 v0 v1 T2 => ⟨(by show 2 ≤ sizeLine; decide), fun q3 G3 m3 t3 h3 => ?_⟩⟩⟩
      have T13 := (T1.trans T2).trans (Step.of T2.deck t3)
      exact ⟨.ref po, .ref q3, (X, Y), (x1, x2), rfl, At2.step ⟨po, rfl, on11⟩ T13 S11.deck, ⟨q3, rfl, .inl (.inl h3)⟩, fun w G7 r t7 e7 r1 r2 r3 => ⟨(by show 2 ≤ sizeLine; decide), fun q8 G8 m8 t8 h8 =>
        fin (T13.trans (Step.of T13.deck t7)) t8 e7 (bu (by unfold BdN; simp only; omega) (by unfold BdN; simp only; omega) r1 r3) r2 h8⟩⟩
    refine ⟨_, rfl, rfl, _, rfl, ite2 (fun e => ?_) (fun e => ?_)⟩
    · -- through one
      obtain ⟨co, rfl, ho⟩ := id eo
      refine ⟨_, rfl, _, rfl, po, _, 0, _, rfl, rfl, on11, rfl, _, rfl, co, _, 0, _, rfl, rfl, ho, rfl, _, _, rfl, rfl, _, rfl, po, _, 1, _, rfl, rfl, on11, rfl, _, rfl, co, _, 1, _, rfl, rfl, ho, rfl, _, _, rfl, rfl, (by show 2 ≤ sizeLine; decide), fun q3 G3 m3 t3 h3 => ?_⟩
      refine ⟨_, rfl, po, _, 0, _, rfl, rfl, seT t3 on11, rfl, _, rfl, co, _, 0, _, rfl, rfl, seT t3 ho, rfl, _, _, rfl, rfl, _, rfl, po, _, 1, _, rfl, rfl, seT t3 on11, rfl, _, rfl, co, _, 1, _, rfl, rfl, seT t3 ho, rfl, _, _, rfl, rfl, (by show 2 ≤ sizeLine; decide), fun q4 G4 m4 t4 h4 => ⟨(by show 2 ≤ sizeLine; decide), fun q5 G5 m5 t5 h5 => ⟨(by show 2 ≤ sizeLine; decide), fun q6 G6 m6 t6 h6 => ?_⟩⟩⟩
      refine fin (r := ((X - o.1, Y - o.2), (X + o.1, Y + o.2))) (Step.of S11.deck ((t3.trans t4).trans t5)) t6 ⟨q5, _, _, rfl, .inl (.inl h5), ⟨q3, rfl, .inl (.inl ((t4.trans t5) _ _ h3))⟩, ⟨q4, rfl, .inl (.inl (t5 _ _ h4))⟩⟩
        ⟨bdC_of (by unfold BdN; simp only; omega), bdC_of (by unfold BdN; simp only; omega)⟩ (fun z => no ?_) h6
      have z1 := congrArg Prod.fst z
      have z2 := congrArg Prod.snd z
      simp only at z1 z2
      exact Prod.ext (show o.1 = 0 by omega) (show o.2 = 0 by omega)
    refine ⟨_, rfl, rfl, _, rfl, ite2 (fun e => ?_) (fun e => ?_)⟩
    · -- along it
      refine ⟨_, rfl, _, rfl, _, rfl, po, _, 0, _, rfl, rfl, on11, rfl, _, rfl, c, _, 0, _, rfl, rfl, hc11, rfl, _, _, rfl, rfl, _, rfl, po, _, 1, _, rfl, rfl, on11, rfl, _, rfl, c, _, 1, _, rfl, rfl, hc11, rfl, _, _, rfl, rfl, (by show 2 ≤ sizeLine; decide), fun q4 G4 m4 t4 h4 => ⟨(by show 2 ≤ sizeLine; decide), fun q5 G5 m5 t5 h5 => ⟨(by show 2 ≤ sizeLine; decide), fun q6 G6 m6 t6 h6 => ?_⟩⟩⟩
      refine fin (r := ((X, Y), (X + s.1, Y + s.2))) (Step.of S11.deck (t4.trans t5)) t6 ⟨q5, _, _, rfl, .inl (.inl h5), ⟨po, rfl, seT (t4.trans t5) on11⟩, ⟨q4, rfl, .inl (.inl (t5 _ _ h4))⟩⟩
        ⟨bdC_of (by unfold BdN; simp only; omega), bdC_of (by unfold BdN; simp only; omega)⟩ (fun z => ns_ ?_) h6
      have z1 := congrArg Prod.fst z
      have z2 := congrArg Prod.snd z
      simp only at z1 z2
      exact Prod.ext (show s.1 = 0 by omega) (show s.2 = 0 by omega)
    refine ⟨_, rfl, rfl, _, rfl, ite2 (fun e => ?_) (fun e => ?_)⟩
    · -- beside it
      refine ⟨.ref d, rfl, d, l, 3, rfl, by decide, by decide, S11.deck, fun f1 G1 u0 u1 T1 => ⟨_, _, rfl, rfl, .ref d, rfl, d, l, 3, rfl, by decide, by decide, T1.deck, fun f2 G2 v0 v1 T2 => ⟨_, _, rfl, rfl, (by show 2 ≤ sizeLine; decide), fun q3 G3 m3 t3 h3 => ⟨q3, _, rfl, .inl (.inl h3), rfl, _, _, rfl, _, _, rfl, rfl, ?_⟩⟩⟩⟩
      have T13 := (T1.trans T2).trans (Step.of T2.deck t3)
      obtain ⟨b8, u, w, e8, hS8, hu, hw⟩ := aL11.step T13 S11.deck
      cases e8
      have all8 : AllAt (At2 K G3) [u, w] [L1.1, L1.2] := .cons hu (.cons hw .nil)
      refine ⟨_, rfl, _, rfl, p8, rfl, ⟨_, hS8⟩, fun pD nD => ?_⟩
      refine lcT (K := K) (a := p8) (xs := [u, w]) (fun i H' => Same G3 H' ∧ ∃ vs, H' pD = some (.lst vs) ∧ AllAt (At2 K H') vs (([L1.1, L1.2].take i).map fun p : Pt => (p.1 + (f1 - 1), p.2 + (f2 - 1)))) nD (fun H' e1 e2 => ⟨e1, [], e2, .nil⟩) (fun i H' _ z => seT z.1 hS8) (fun i z H' hz w => ?_) (fun H6 z => ?_)
      · obtain ⟨t1, vs, t2, t3⟩ := w
        obtain ⟨pt, hpt, b, rfl, hb⟩ := all8.get hz
        refine ⟨rfl, _, rfl, b, _, 0, _, rfl, rfl, seT t1 hb, rfl, _, rfl, _, _, rfl, rfl, _, rfl, b, _, 1, _, rfl, rfl, seT t1 hb, rfl, _, rfl, _, _, rfl, rfl, (by show 2 ≤ sizeLine; decide), fun p7 H7 n7 s7 g7 => ?_⟩
        have k7 := s7 _ _ t2
        refine ⟨vs, k7, by rw [t3.length, List.length_map, List.length_take]; exact small1000 (by show min i 2 ≤ 1000; omega), fun b o z => ?_, vs ++ [.ref p7], upd_same, ?_⟩
        · rw [upd_ne (ne_of_none z nD)]; exact s7 _ _ (t1 _ _ z)
        · rw [List.take_add_one, hpt, List.map_append]
          exact AllAt.app (t3.map fun _ _ z => At2.upd (z.same s7) k7) (.cons (At2.upd ⟨p7, rfl, .inl (.inl g7)⟩ k7) .nil)
      · obtain ⟨t1, vs, t2, t3⟩ := z
        obtain ⟨u2, w2, rfl, h1, h2⟩ := AllAt.twoLn (p := (L1.1.1 + (f1 - 1), L1.1.2 + (f2 - 1))) (q := (L1.2.1 + (f1 - 1), L1.2.2 + (f2 - 1))) t3
        refine ⟨pD, _, rfl, .inl (.inl t2), fun q8 G8 m8 t8 h8 => ⟨(by show 2 ≤ sizeLine; decide), fun q9 G9 m9 t9 h9 => ?_⟩⟩
        refine fin (r := ((L1.1.1 + (f1 - 1), L1.1.2 + (f2 - 1)), (L1.2.1 + (f1 - 1), L1.2.2 + (f2 - 1)))) (T13.trans (Step.of T13.deck (t1.trans t8))) t9 ⟨q8, _, _, rfl, .inl (.inl h8), h1.same t8, h2.same t8⟩ ?_ (fun z => nL ?_) h9
        · rw [hL1]
          exact ⟨bdC_of (by unfold BdN; simp only; omega), bdC_of (by unfold BdN; simp only; omega)⟩
        · have z1 := congrArg Prod.fst z
          have z2 := congrArg Prod.snd z
          simp only at z1 z2
          exact Prod.ext (by omega) (by omega)
    · -- nearly along it
      obtain ⟨b8, u, w, e8, hS8, ⟨bu_, rfl, hu⟩, ⟨bw, rfl, hw⟩⟩ := id aL11
      cases e8
      refine ⟨_, rfl, _, rfl, p8, _, 0, _, rfl, rfl, hS8, rfl, bu_, _, 0, _, rfl, rfl, hu, rfl, _, rfl, p8, _, 0, _, rfl, rfl, hS8, rfl, bu_, _, 1, _, rfl, rfl, hu, rfl, _, _, rfl, rfl, (by show 2 ≤ sizeLine; decide), fun q3 G3 m3 t3 h3 => ?_⟩
      have D3 := (Step.of S11.deck t3).deck
      refine ⟨_, rfl, p8, _, 1, _, rfl, rfl, seT t3 hS8, rfl, bw, _, 0, _, rfl, rfl, seT t3 hw, rfl, _, rfl, p8, _, 1, _, rfl, rfl, seT t3 hS8, rfl, bw, _, 1, _, rfl, rfl, seT t3 hw, rfl, .ref d, rfl, d, l, 2, rfl, by decide, by decide, D3, fun f1 G4 u0 u1 T4 => ⟨_, _, rfl, rfl, (by show 2 ≤ sizeLine; decide), fun q6 G6 m6 t6 h6 => ?_⟩⟩
      have T36 := T4.trans (Step.of T4.deck t6)
      refine ⟨.ref q3, .ref q6, (L1.1.1, L1.1.2 + 1), (L1.2.1, L1.2.2 - f1), rfl, At2.step ⟨q3, rfl, .inl (.inl h3)⟩ T36 D3, ⟨q6, rfl, .inl (.inl h6)⟩, fun w G7 r t7 e7 r1 r2 r3 => ⟨(by show 2 ≤ sizeLine; decide), fun q8 G8 m8 t8 h8 =>
        fin (((Step.of S11.deck t3).trans T36).trans (Step.of T36.deck t7)) t8 e7 (bu ?_ ?_ r1 r3) r2 h8⟩⟩
      · rw [hL1]; unfold BdN; simp only; omega
      · rw [hL1]; unfold BdN; simp only; omega

end
end Cl

set_option maxHeartbeats 0
namespace Cl
open PySem PySem.Spec PyProof.Rows L2

section
variable {P : Program} {w : World} {K : PySem.W.Frag} {mg : Str → Option Value} {base : Heap}

theorem ok_law_wide_pair {f : Addr} {fd : FuncData} (F : Fun K "_law_wide_pair" "_law_wide_pair" s_law_wide_pair f fd) (T : Bt mg) (D_law_draw : Def P w K mg base 1 "_law_draw" ["_law_deck_here", "_law_most"] spDraw) (D_law_wide : Def P w K mg base 2 "_law_wide" ["_law_deck_here"] (spNum 1000000)) :
    FnG P w K mg base CX0 3 f fd ["_law_deck_here"] (spPair K) := by
  refine okG (k := 2) F sc_law_wide_pair (fun vs H Q E h => ?_) (fun cdv A outer s H vs Q E hr h => ?_)
  · obtain ⟨d, l, rfl, _⟩ := h
    rfl
  · obtain ⟨d, l, rfl, D, q⟩ := h
    refine ⟨_, (pss_cons (ps_set (i := 1) sc_law_wide_pair.nd rfl (.inl rfl) (pe_cmpR op_eq (callD D_law_draw (hr.mono (by decide)) (pa_cons (pv 0) (pa_cons pe_int pa_nil))) pe_int (nomark _)))
      (pss_cons (ps_asg (pe_lc (own := [("_law_k", 6)]) (g := gName 6) (tt := tYes) (by rfl) sc_law_wide_pair.nd (pi_range1 (by rfl) T.range (pa_cons pe_int pa_nil)) (blkOk_by (own := [("_law_k", 6)]) (N := ["_law_deck_here", "_law_beside", "_law_a", "_law_b", "_law_c", "_law_e", "_law_k", "_law_one"]) (sc := defScope s_law_wide_pair) (by decide +kernel)) (fun _ _ _ _ _ => (pg_name (i := 6) sc_law_wide_pair.nd rfl (.inl rfl))) (fun _ _ _ _ _ => pts_nil) (fun _ _ _ _ _ => (callD D_law_wide (hr.mono (by decide)) (pa_cons (pv 0) pa_nil)))) (pg_lst (by rfl) (pgs_cons (pg_name (i := 2) sc_law_wide_pair.nd rfl (.inl rfl)) (pgs_cons (pg_name (i := 3) sc_law_wide_pair.nd rfl (.inl rfl)) (pgs_cons (pg_name (i := 4) sc_law_wide_pair.nd rfl (.inl rfl)) (pgs_cons (pg_name (i := 5) sc_law_wide_pair.nd rfl (.inl rfl)) pgs_nil))))))
      (pss_cons (ps_set (i := 7) sc_law_wide_pair.nd rfl (.inl rfl) (tupN (pa_cons (tupN (pa_cons (pe_un un_neg (pe_op op_pow pe_int pe_int)) (pa_cons (pv 2) pa_nil))) (pa_cons (tupN (pa_cons (pe_op op_pow pe_int pe_int) (pa_cons (pv 3) pa_nil))) pa_nil))))
      (pss_cons (ps_if (pt_val (pv 1)) (pss_one (ps_ret (tupN (pa_cons (pv 7) (pa_cons (tupN (pa_cons (tupN (pa_cons (pe_un un_neg (pe_op op_pow pe_int pe_int)) (pa_cons (pe_ix ix_list (lstN (pa_cons (pv 2) (pa_cons (pv 4) pa_nil))) (callD D_law_draw (hr.mono (by decide)) (pa_cons (pv 0) (pa_cons pe_int pa_nil))) (fun _ _ => rfl)) pa_nil))) (pa_cons (tupN (pa_cons (pe_op op_pow pe_int pe_int) (pa_cons (pe_callB (call_max2 rfl) (by rfl) T.max (by decide +kernel) (pa_cons (pe_un un_neg (pe_op op_pow pe_int pe_int)) (pa_cons (pe_op op_sub (pv 3) (callD D_law_draw (hr.mono (by decide)) (pa_cons (pv 0) (pa_cons pe_int pa_nil)))) pa_nil))) pa_nil))) pa_nil))) pa_nil))))) pss_nil)
      (pss_one (ps_ret (tupN (pa_cons (pv 7) (pa_cons (tupN (pa_cons (tupN (pa_cons (pv 4) (pa_cons (pe_un un_neg (pe_op op_pow pe_int pe_int)) pa_nil))) (pa_cons (tupN (pa_cons (pv 5) (pa_cons (pe_op op_pow pe_int pe_int) pa_nil))) pa_nil))) pa_nil))))))))), ?_⟩
    refine ⟨.ref d, rfl, d, l, 2, rfl, by decide, by decide, D, fun w H1 w0 w1 S1 => ⟨rfl, ?_⟩⟩
    refine ⟨4, rfl, by decide, by decide, fun pD nD => ?_⟩
    refine lcR (lo := 0) (n := 4) (Acc d l pD H1 · (fun z => -1000000 ≤ z ∧ z ≤ 1000000) ·) nD (fun H' e1 e2 => .start S1.deck e1 e2) (fun i H' hi z => ⟨rfl, .ref d, rfl, d, l, rfl, z.choose_spec.1.deck, fun v Hv v0 v1 Sv => z.turn Sv S1.deck nD (by omega) ⟨v0, v1⟩⟩) (fun H2 z => ?_)
    obtain ⟨xs, S2, eD, l1, a1⟩ := z
    obtain ⟨a, b, c, e, rfl⟩ := four l1
    have ka := a1 a (by simp)
    have kb := a1 b (by simp)
    have kc := a1 c (by simp)
    have ke := a1 e (by simp)
    clear a1 l1
    have e6 : (10 : Int) ^ (6 : Int).toNat = 1000000 := by decide
    refine ⟨pD, _, rfl, .inl (.inl eD), rfl, _, _, rfl, _, _, rfl, _, _, rfl, _, _, rfl, rfl, ?_⟩
    refine ⟨_, _, rfl, rfl, ⟨by decide, by decide, by decide⟩, _, rfl, _, rfl, (by show 2 ≤ sizeLine; decide), fun p3 H3 n3 s3 g3 => ?_⟩
    refine ⟨_, _, rfl, rfl, ⟨by decide, by decide, by decide⟩, _, rfl, (by show 2 ≤ sizeLine; decide), fun p4 H4 n4 s4 g4 => ⟨(by show 2 ≤ sizeLine; decide), fun p5 H5 n5 s5 g5 => ?_⟩⟩
    have g3' : H3 p3 = some (.tup [.int (-((10 : Int) ^ (6 : Int).toNat)), .int a]) := g3
    have g4' : H4 p4 = some (.tup [.int ((10 : Int) ^ (6 : Int).toNat), .int b]) := g4
    rw [e6] at g3' g4'
    have S5 := (S1.trans S2).trans (Step.of S2.deck ((s3.trans s4).trans s5))
    have aL : AtL K H5 (.ref p5) ((-1000000, a), (1000000, b)) := ⟨p5, _, _, rfl, .inl (.inl g5), ⟨p3, rfl, .inl (.inl ((s4.trans s5) _ _ g3'))⟩, ⟨p4, rfl, .inl (.inl (s5 _ _ g4'))⟩⟩
    have gL : BdL ((-1000000, a), (1000000, b)) := ⟨bdC_of (by unfold BdN; simp only; omega), bdC_of (by unfold BdN; simp only; omega)⟩
    have nL : ((-1000000, a) : Pt) ≠ (1000000, b) := fun z => by
      have := congrArg Prod.fst z
      simp only at this
      omega
    refine ⟨_, rfl, _, rfl, ite2 (fun hw => ?_) (fun hw => ?_)⟩
    · refine ⟨_, rfl, _, _, rfl, rfl, ⟨by decide, by decide, by decide⟩, _, rfl, _, rfl, _, rfl, (by show 2 ≤ sizeLine; decide), fun p6 H6 n6 s6 g6 => ?_⟩
      refine ⟨.ref d, rfl, d, l, 2, rfl, by decide, by decide, (Step.of S5.deck s6).deck, fun i H7 i0 i1 S7 => ?_⟩
      have hv : ∃ v : Int, atI [V.int a, V.int c] i = some (.int v) ∧ -1000000 ≤ v ∧ v ≤ 1000000 := by
        obtain rfl | rfl : i = 0 ∨ i = 1 := by omega
        · exact ⟨a, rfl, ka⟩
        · exact ⟨c, rfl, kc⟩
      obtain ⟨v, hv, bv⟩ := hv
      have np := S5.deck.nd n6
      have k6 := S7.at np.1 np.2 g6
      refine ⟨p6, _, i, _, rfl, rfl, .inl (.inl k6), hv, (by show 2 ≤ sizeLine; decide), fun p8 H8 n8 s8 g8 => ?_⟩
      have D8 := (Step.of S7.deck s8).deck
      refine ⟨_, _, rfl, rfl, ⟨by decide, by decide, by decide⟩, _, _, rfl, rfl, ⟨by decide, by decide, by decide⟩, _, rfl, _, rfl, .ref d, rfl, d, l, 3, rfl, by decide, by decide, D8, fun t H9 t0 t1 S9 => ⟨_, _, rfl, rfl, _, _, rfl, ?_⟩⟩
      have hmx : ∃ x : Int, (if b - t > -((10 : Int) ^ (6 : Int).toNat) then b - t else -((10 : Int) ^ (6 : Int).toNat)) = x ∧ -1000000 ≤ x ∧ x ≤ 1000000 := by
        rw [e6]
        refine ⟨_, rfl, ?_⟩
        split <;> omega
      obtain ⟨x, ex, bx⟩ := hmx
      refine ⟨(by show 2 ≤ sizeLine; decide), fun p10 H10 n10 s10 g10 => ⟨(by show 2 ≤ sizeLine; decide), fun p11 H11 n11 s11 g11 => ⟨(by show 2 ≤ sizeLine; decide), fun p12 H12 n12 s12 g12 => ?_⟩⟩⟩
      have g8' : H8 p8 = some (.tup [.int (-((10 : Int) ^ (6 : Int).toNat)), .int v]) := g8
      have g10' : H10 p10 = some (.tup [.int ((10 : Int) ^ (6 : Int).toNat), .int (if b - t > -((10 : Int) ^ (6 : Int).toNat) then b - t else -((10 : Int) ^ (6 : Int).toNat))]) := g10
      rw [ex, e6] at g10'
      rw [e6] at g8'
      have T57 := (Step.of S5.deck s6).trans S7
      have T9 := (Step.of S7.deck s8).trans S9
      have T12 := Step.of S9.deck ((s10.trans s11).trans s12)
      refine q _ _ ((-1000000, a), (1000000, b)) ((-1000000, v), (1000000, x)) ((S5.trans T57).trans (T9.trans T12)) ⟨p12, _, _, rfl, .inl (.inl g12), aL.step (T57.trans (T9.trans T12)) S5.deck, ⟨p11, _, _, rfl, .inl (.inl (s12 _ _ g11)), At2.step ⟨p8, rfl, .inl (.inl g8')⟩ (S9.trans T12) D8, ⟨p10, rfl, .inl (.inl ((s11.trans s12) _ _ g10'))⟩⟩⟩ ⟨gL, ⟨bdC_of (by unfold BdN; (try simp only); omega), bdC_of (by unfold BdN; (try simp only); omega)⟩, nL, fun z => ?_⟩
      have := congrArg Prod.fst z
      simp only at this
      omega
    · refine ⟨_, rfl, _, rfl, _, _, rfl, rfl, ⟨by decide, by decide, by decide⟩, _, rfl, (by show 2 ≤ sizeLine; decide), fun p6 H6 n6 s6 g6 => ?_⟩
      refine ⟨_, rfl, _, _, rfl, rfl, ⟨by decide, by decide, by decide⟩, (by show 2 ≤ sizeLine; decide), fun p7 H7 n7 s7 g7 => ⟨(by show 2 ≤ sizeLine; decide), fun p8 H8 n8 s8 g8 => ⟨(by show 2 ≤ sizeLine; decide), fun p9 H9 n9 s9 g9 => ?_⟩⟩⟩
      have g6' : H6 p6 = some (.tup [.int c, .int (-((10 : Int) ^ (6 : Int).toNat))]) := g6
      have g7' : H7 p7 = some (.tup [.int e, .int ((10 : Int) ^ (6 : Int).toNat)]) := g7
      rw [e6] at g6' g7'
      have s79 := (s7.trans s8).trans s9
      refine q _ _ ((-1000000, a), (1000000, b)) ((c, -1000000), (e, 1000000)) (S5.trans (Step.of S5.deck (s6.trans s79))) ⟨p9, _, _, rfl, .inl (.inl g9), aL.same (s6.trans s79), ⟨p8, _, _, rfl, .inl (.inl (s9 _ _ g8)), ⟨p6, rfl, .inl (.inl (s79 _ _ g6'))⟩, ⟨p7, rfl, .inl (.inl ((s8.trans s9) _ _ g7'))⟩⟩⟩ ⟨gL, ⟨bdC_of (by unfold BdN; (try simp only); omega), bdC_of (by unfold BdN; (try simp only); omega)⟩, nL, fun z => ?_⟩
      have := congrArg Prod.snd z
      simp only at this
      omega

end
end Cl

set_option maxHeartbeats 0
namespace Cl
open PySem PySem.Spec PyProof.Rows L2

section
variable {P : Program} {w : World} {K : PySem.W.Frag} {mg : Str → Option Value} {base : Heap}

theorem oklaw {f : Addr} {fd : FuncData} (F : Fun K "law" "law" slaw f fd) (T : Bt mg) (D_law_deck : Def P w K mg base 1 "_law_deck" ["_law_script"] (spDeck K)) (D_law_great_pair : Def P w K mg base 4 "_law_great_pair" ["_law_deck_here"] (spPair K)) (D_law_wide_pair : Def P w K mg base 3 "_law_wide_pair" ["_law_deck_here"] (spPair K)) (D_law_right : Def P w K mg base 6 "_law_right" ["_law_one", "_law_other"] (spRight K)) :
    FnG P w K mg base CX0 7 f fd ["_law_script"] (spLaw K) := by
  refine okG (k := 6) F sclaw (fun vs H Q E h => ?_) (fun cdv A outer s H vs Q E hr h => ?_)
  · obtain ⟨a, ns, rfl, _⟩ := h
    rfl
  · obtain ⟨a, ns, rfl, hS, hlen, q⟩ := h
    refine ⟨_, (pss_cons (ps_set (i := 1) sclaw.nd rfl (.inl rfl) (callD D_law_deck (hr.mono (by decide)) (pa_cons (pv 0) pa_nil)))
      (pss_cons (ps_for PassesOwn.never rfl (pi_range1 (by rfl) T.range (pa_cons pe_int pa_nil)) (pg_name (i := 2) sclaw.nd rfl (.inl rfl)) (pss_cons (ps_asg (callD D_law_great_pair (hr.mono (by decide)) (pa_cons (pv 1) pa_nil)) (pg_tup (by rfl) (pgs_cons (pg_name (i := 3) sclaw.nd rfl (.inl rfl)) (pgs_cons (pg_name (i := 4) sclaw.nd rfl (.inl rfl)) pgs_nil))))
      (pss_one (ps_if (pt_not (pt_val (callD D_law_right (hr.mono (by decide)) (pa_cons (pv 3) (pa_cons (pv 4) pa_nil))))) (pss_one (ps_ret pe_bl)) pss_nil))))
      (pss_cons (ps_for PassesOwn.never rfl (pi_range1 (by rfl) T.range (pa_cons pe_int pa_nil)) (pg_name (i := 2) sclaw.nd rfl (.inl rfl)) (pss_cons (ps_asg (callD D_law_wide_pair (hr.mono (by decide)) (pa_cons (pv 1) pa_nil)) (pg_tup (by rfl) (pgs_cons (pg_name (i := 3) sclaw.nd rfl (.inl rfl)) (pgs_cons (pg_name (i := 4) sclaw.nd rfl (.inl rfl)) pgs_nil))))
      (pss_one (ps_if (pt_not (pt_val (callD D_law_right (hr.mono (by decide)) (pa_cons (pv 3) (pa_cons (pv 4) pa_nil))))) (pss_one (ps_ret pe_bl)) pss_nil))))
      (pss_one (ps_ret pe_bl))))), ?_⟩
    refine ⟨.ref a, rfl, a, ns, rfl, hS, hlen, fun d l H1 s1 D1 => ?_⟩
    refine ⟨6, rfl, by decide, by decide, for_range (n := 6) (fun i σ H' => ∃ y2 y3 y4, σ = [some (.ref a), some (.ref d), y2, y3, y4] ∧ Deck H' d l) ?_ ?_ ?_⟩
    · exact ⟨_, _, _, rfl, D1⟩
    · rintro i σ H2 hi ⟨y2, y3, y4, rfl, D2⟩
      refine ⟨.ref d, rfl, d, l, rfl, D2, fun w H3 m n S3 e3 gd => ?_⟩
      obtain ⟨b, u, v, rfl, hb, hu, hv⟩ := e3
      refine ⟨b, _, rfl, hb, rfl, _, _, rfl, _, _, rfl, rfl, ?_⟩
      exact ⟨_, rfl, _, rfl, u, v, m, n, rfl, hu, hv, gd.1, gd.2.1, gd.2.2.1, gd.2.2.2, fun H9 s9 => ⟨_, rfl, iteF ⟨_, _, _, rfl, (S3.trans (Step.of S3.deck s9)).deck⟩⟩⟩
    · rintro σ H2 ⟨y2, y3, y4, rfl, D2⟩
      refine ⟨2, rfl, by decide, by decide, for_range (n := 2) (fun i σ H' => ∃ y2 y3 y4, σ = [some (.ref a), some (.ref d), y2, y3, y4] ∧ Deck H' d l) ?_ ?_ ?_⟩
      · exact ⟨_, _, _, rfl, D2⟩
      · rintro i σ H2 hi ⟨y2, y3, y4, rfl, D2⟩
        refine ⟨.ref d, rfl, d, l, rfl, D2, fun w H3 m n S3 e3 gd => ?_⟩
        obtain ⟨b, u, v, rfl, hb, hu, hv⟩ := e3
        refine ⟨b, _, rfl, hb, rfl, _, _, rfl, _, _, rfl, rfl, ?_⟩
        exact ⟨_, rfl, _, rfl, u, v, m, n, rfl, hu, hv, gd.1, gd.2.1, gd.2.2.1, gd.2.2.2, fun H9 s9 => ⟨_, rfl, iteF ⟨_, _, _, rfl, (S3.trans (Step.of S3.deck s9)).deck⟩⟩⟩
      · rintro σ H2 ⟨y2, y3, y4, rfl, D2⟩
        exact q _

end

theorem all_mk {l : PySem.W.OpenLaw} {w : World} {K : PySem.W.Frag} {h : Heap} {mg : Str → Option Value} {fa : Addr} (X : K.In h) (G : h.Ns mainGlobals mg) (hfa : mg "law" = some (.ref fa))
    {f0 : Addr} {od0 an0 : Option Addr} {sl0 : Array (Option Value)} {oc0 kV0 dc0 pm0 cd0 ct0 : Value}
    {f1 : Addr} {od1 an1 : Option Addr} {sl1 : Array (Option Value)} {oc1 kV1 dc1 pm1 cd1 ct1 : Value}
    {f2 : Addr} {od2 an2 : Option Addr} {sl2 : Array (Option Value)} {oc2 kV2 dc2 pm2 cd2 ct2 : Value}
    {f3 : Addr} {od3 an3 : Option Addr} {sl3 : Array (Option Value)} {oc3 kV3 dc3 pm3 cd3 ct3 : Value}
    {f4 : Addr} {od4 an4 : Option Addr} {sl4 : Array (Option Value)} {oc4 kV4 dc4 pm4 cd4 ct4 : Value}
    {f5 : Addr} {od5 an5 : Option Addr} {sl5 : Array (Option Value)} {oc5 kV5 dc5 pm5 cd5 ct5 : Value}
    {f6 : Addr} {od6 an6 : Option Addr} {sl6 : Array (Option Value)} {oc6 kV6 dc6 pm6 cd6 ct6 : Value}
    {f7 : Addr} {od7 an7 : Option Addr} {sl7 : Array (Option Value)} {oc7 kV7 dc7 pm7 cd7 ct7 : Value}
    {f8 : Addr} {od8 an8 : Option Addr} {sl8 : Array (Option Value)} {oc8 kV8 dc8 pm8 cd8 ct8 : Value}
    {f9 : Addr} {od9 an9 : Option Addr} {sl9 : Array (Option Value)} {oc9 kV9 dc9 pm9 cd9 ct9 : Value}
    {f10 : Addr} {od10 an10 : Option Addr} {sl10 : Array (Option Value)} {oc10 kV10 dc10 pm10 cd10 ct10 : Value}
    {f11 : Addr} {od11 an11 : Option Addr} {sl11 : Array (Option Value)} {oc11 kV11 dc11 pm11 cd11 ct11 : Value}
    {f12 : Addr} {od12 an12 : Option Addr} {sl12 : Array (Option Value)} {oc12 kV12 dc12 pm12 cd12 ct12 : Value}
    {f13 : Addr} {od13 an13 : Option Addr} {sl13 : Array (Option Value)} {oc13 kV13 dc13 pm13 cd13 ct13 : Value}
    {f14 : Addr} {od14 an14 : Option Addr} {sl14 : Array (Option Value)} {oc14 kV14 dc14 pm14 cd14 ct14 : Value}
    {f15 : Addr} {od15 an15 : Option Addr} {sl15 : Array (Option Value)} {oc15 kV15 dc15 pm15 cd15 ct15 : Value}
    {f16 : Addr} {od16 an16 : Option Addr} {sl16 : Array (Option Value)} {oc16 kV16 dc16 pm16 cd16 ct16 : Value}
    {f17 : Addr} {od17 an17 : Option Addr} {sl17 : Array (Option Value)} {oc17 kV17 dc17 pm17 cd17 ct17 : Value}
    {f18 : Addr} {od18 an18 : Option Addr} {sl18 : Array (Option Value)} {oc18 kV18 dc18 pm18 cd18 ct18 : Value}
    {f19 : Addr} {od19 an19 : Option Addr} {sl19 : Array (Option Value)} {oc19 kV19 dc19 pm19 cd19 ct19 : Value}
    {f20 : Addr} {od20 an20 : Option Addr} {sl20 : Array (Option Value)} {oc20 kV20 dc20 pm20 cd20 ct20 : Value}
    {f21 : Addr} {od21 an21 : Option Addr} {sl21 : Array (Option Value)} {oc21 kV21 dc21 pm21 cd21 ct21 : Value}
    {f22 : Addr} {od22 an22 : Option Addr} {sl22 : Array (Option Value)} {oc22 kV22 dc22 pm22 cd22 ct22 : Value}
    {f23 : Addr} {od23 an23 : Option Addr} {sl23 : Array (Option Value)} {oc23 kV23 dc23 pm23 cd23 ct23 : Value}
    {f24 : Addr} {od24 an24 : Option Addr} {sl24 : Array (Option Value)} {oc24 kV24 dc24 pm24 cd24 ct24 : Value}
    {f25 : Addr} {od25 an25 : Option Addr} {sl25 : Array (Option Value)} {oc25 kV25 dc25 pm25 cd25 ct25 : Value}
    (a0 : PySem.W.nsIn K mainGlobals "_law_deck" = some (some (.ref f0))) (l0 : K.lookup f0 = some ⟨oc0, od0, .func (PySem.W.fnOf "_law_deck" "_law_deck" (defArgs s_law_deck) (defBody s_law_deck) (defScope s_law_deck) .none kV0 dc0 pm0 an0 cd0 ct0), sl0⟩) (c0 : PySem.W.codeIn K cd0 "_law_deck" = true) (k0 : PySem.W.keepIn K (.ref f0) = true)
    (a1 : PySem.W.nsIn K mainGlobals "_law_draw" = some (some (.ref f1))) (l1 : K.lookup f1 = some ⟨oc1, od1, .func (PySem.W.fnOf "_law_draw" "_law_draw" (defArgs s_law_draw) (defBody s_law_draw) (defScope s_law_draw) .none kV1 dc1 pm1 an1 cd1 ct1), sl1⟩) (c1 : PySem.W.codeIn K cd1 "_law_draw" = true) (k1 : PySem.W.keepIn K (.ref f1) = true)
    (a2 : PySem.W.nsIn K mainGlobals "_law_unlike" = some (some (.ref f2))) (l2 : K.lookup f2 = some ⟨oc2, od2, .func (PySem.W.fnOf "_law_unlike" "_law_unlike" (defArgs s_law_unlike) (defBody s_law_unlike) (defScope s_law_unlike) .none kV2 dc2 pm2 an2 cd2 ct2), sl2⟩) (c2 : PySem.W.codeIn K cd2 "_law_unlike" = true) (k2 : PySem.W.keepIn K (.ref f2) = true)
    (a3 : PySem.W.nsIn K mainGlobals "_law_less" = some (some (.ref f3))) (l3 : K.lookup f3 = some ⟨oc3, od3, .func (PySem.W.fnOf "_law_less" "_law_less" (defArgs s_law_less) (defBody s_law_less) (defScope s_law_less) .none kV3 dc3 pm3 an3 cd3 ct3), sl3⟩) (c3 : PySem.W.codeIn K cd3 "_law_less" = true) (k3 : PySem.W.keepIn K (.ref f3) = true)
    (a4 : PySem.W.nsIn K mainGlobals "_law_parted" = some (some (.ref f4))) (l4 : K.lookup f4 = some ⟨oc4, od4, .func (PySem.W.fnOf "_law_parted" "_law_parted" (defArgs s_law_parted) (defBody s_law_parted) (defScope s_law_parted) .none kV4 dc4 pm4 an4 cd4 ct4), sl4⟩) (c4 : PySem.W.codeIn K cd4 "_law_parted" = true) (k4 : PySem.W.keepIn K (.ref f4) = true)
    (a5 : PySem.W.nsIn K mainGlobals "_law_lowest" = some (some (.ref f5))) (l5 : K.lookup f5 = some ⟨oc5, od5, .func (PySem.W.fnOf "_law_lowest" "_law_lowest" (defArgs s_law_lowest) (defBody s_law_lowest) (defScope s_law_lowest) .none kV5 dc5 pm5 an5 cd5 ct5), sl5⟩) (c5 : PySem.W.codeIn K cd5 "_law_lowest" = true) (k5 : PySem.W.keepIn K (.ref f5) = true)
    (a6 : PySem.W.nsIn K mainGlobals "greatest_parting" = some (some (.ref f6))) (l6 : K.lookup f6 = some ⟨oc6, od6, .func (PySem.W.fnOf "greatest_parting" "greatest_parting" (defArgs sgreatest_parting) (defBody sgreatest_parting) (defScope sgreatest_parting) .none kV6 dc6 pm6 an6 cd6 ct6), sl6⟩) (c6 : PySem.W.codeIn K cd6 "greatest_parting" = true) (k6 : PySem.W.keepIn K (.ref f6) = true)
    (a7 : PySem.W.nsIn K mainGlobals "spot_of" = some (some (.ref f7))) (l7 : K.lookup f7 = some ⟨oc7, od7, .func (PySem.W.fnOf "spot_of" "spot_of" (defArgs sspot_of) (defBody sspot_of) (defScope sspot_of) .none kV7 dc7 pm7 an7 cd7 ct7), sl7⟩) (c7 : PySem.W.codeIn K cd7 "spot_of" = true) (k7 : PySem.W.keepIn K (.ref f7) = true)
    (a8 : PySem.W.nsIn K mainGlobals "step_of" = some (some (.ref f8))) (l8 : K.lookup f8 = some ⟨oc8, od8, .func (PySem.W.fnOf "step_of" "step_of" (defArgs sstep_of) (defBody sstep_of) (defScope sstep_of) .none kV8 dc8 pm8 an8 cd8 ct8), sl8⟩) (c8 : PySem.W.codeIn K cd8 "step_of" = true) (k8 : PySem.W.keepIn K (.ref f8) = true)
    (a9 : PySem.W.nsIn K mainGlobals "turn_of" = some (some (.ref f9))) (l9 : K.lookup f9 = some ⟨oc9, od9, .func (PySem.W.fnOf "turn_of" "turn_of" (defArgs sturn_of) (defBody sturn_of) (defScope sturn_of) .none kV9 dc9 pm9 an9 cd9 ct9), sl9⟩) (c9 : PySem.W.codeIn K cd9 "turn_of" = true) (k9 : PySem.W.keepIn K (.ref f9) = true)
    (a10 : PySem.W.nsIn K mainGlobals "_law_turn" = some (some (.ref f10))) (l10 : K.lookup f10 = some ⟨oc10, od10, .func (PySem.W.fnOf "_law_turn" "_law_turn" (defArgs s_law_turn) (defBody s_law_turn) (defScope s_law_turn) .none kV10 dc10 pm10 an10 cd10 ct10), sl10⟩) (c10 : PySem.W.codeIn K cd10 "_law_turn" = true) (k10 : PySem.W.keepIn K (.ref f10) = true)
    (a11 : PySem.W.nsIn K mainGlobals "side_of" = some (some (.ref f11))) (l11 : K.lookup f11 = some ⟨oc11, od11, .func (PySem.W.fnOf "side_of" "side_of" (defArgs sside_of) (defBody sside_of) (defScope sside_of) .none kV11 dc11 pm11 an11 cd11 ct11), sl11⟩) (c11 : PySem.W.codeIn K cd11 "side_of" = true) (k11 : PySem.W.keepIn K (.ref f11) = true)
    (a12 : PySem.W.nsIn K mainGlobals "spot_at" = some (some (.ref f12))) (l12 : K.lookup f12 = some ⟨oc12, od12, .func (PySem.W.fnOf "spot_at" "spot_at" (defArgs sspot_at) (defBody sspot_at) (defScope sspot_at) .none kV12 dc12 pm12 an12 cd12 ct12), sl12⟩) (c12 : PySem.W.codeIn K cd12 "spot_at" = true) (k12 : PySem.W.keepIn K (.ref f12) = true)
    (a13 : PySem.W.nsIn K mainGlobals "common_across" = some (some (.ref f13))) (l13 : K.lookup f13 = some ⟨oc13, od13, .func (PySem.W.fnOf "common_across" "common_across" (defArgs scommon_across) (defBody scommon_across) (defScope scommon_across) .none kV13 dc13 pm13 an13 cd13 ct13), sl13⟩) (c13 : PySem.W.codeIn K cd13 "common_across" = true) (k13 : PySem.W.keepIn K (.ref f13) = true)
    (a14 : PySem.W.nsIn K mainGlobals "common_along" = some (some (.ref f14))) (l14 : K.lookup f14 = some ⟨oc14, od14, .func (PySem.W.fnOf "common_along" "common_along" (defArgs scommon_along) (defBody scommon_along) (defScope scommon_along) .none kV14 dc14 pm14 an14 cd14 ct14), sl14⟩) (c14 : PySem.W.codeIn K cd14 "common_along" = true) (k14 : PySem.W.keepIn K (.ref f14) = true)
    (a15 : PySem.W.nsIn K mainGlobals "common" = some (some (.ref f15))) (l15 : K.lookup f15 = some ⟨oc15, od15, .func (PySem.W.fnOf "common" "common" (defArgs scommon) (defBody scommon) (defScope scommon) .none kV15 dc15 pm15 an15 cd15 ct15), sl15⟩) (c15 : PySem.W.codeIn K cd15 "common" = true) (k15 : PySem.W.keepIn K (.ref f15) = true)
    (a16 : PySem.W.nsIn K mainGlobals "_law_due_along" = some (some (.ref f16))) (l16 : K.lookup f16 = some ⟨oc16, od16, .func (PySem.W.fnOf "_law_due_along" "_law_due_along" (defArgs s_law_due_along) (defBody s_law_due_along) (defScope s_law_due_along) .none kV16 dc16 pm16 an16 cd16 ct16), sl16⟩) (c16 : PySem.W.codeIn K cd16 "_law_due_along" = true) (k16 : PySem.W.keepIn K (.ref f16) = true)
    (a17 : PySem.W.nsIn K mainGlobals "_law_due" = some (some (.ref f17))) (l17 : K.lookup f17 = some ⟨oc17, od17, .func (PySem.W.fnOf "_law_due" "_law_due" (defArgs s_law_due) (defBody s_law_due) (defScope s_law_due) .none kV17 dc17 pm17 an17 cd17 ct17), sl17⟩) (c17 : PySem.W.codeIn K cd17 "_law_due" = true) (k17 : PySem.W.keepIn K (.ref f17) = true)
    (a18 : PySem.W.nsIn K mainGlobals "_law_right" = some (some (.ref f18))) (l18 : K.lookup f18 = some ⟨oc18, od18, .func (PySem.W.fnOf "_law_right" "_law_right" (defArgs s_law_right) (defBody s_law_right) (defScope s_law_right) .none kV18 dc18 pm18 an18 cd18 ct18), sl18⟩) (c18 : PySem.W.codeIn K cd18 "_law_right" = true) (k18 : PySem.W.keepIn K (.ref f18) = true)
    (a19 : PySem.W.nsIn K mainGlobals "_law_far" = some (some (.ref f19))) (l19 : K.lookup f19 = some ⟨oc19, od19, .func (PySem.W.fnOf "_law_far" "_law_far" (defArgs s_law_far) (defBody s_law_far) (defScope s_law_far) .none kV19 dc19 pm19 an19 cd19 ct19), sl19⟩) (c19 : PySem.W.codeIn K cd19 "_law_far" = true) (k19 : PySem.W.keepIn K (.ref f19) = true)
    (a20 : PySem.W.nsIn K mainGlobals "_law_step" = some (some (.ref f20))) (l20 : K.lookup f20 = some ⟨oc20, od20, .func (PySem.W.fnOf "_law_step" "_law_step" (defArgs s_law_step) (defBody s_law_step) (defScope s_law_step) .none kV20 dc20 pm20 an20 cd20 ct20), sl20⟩) (c20 : PySem.W.codeIn K cd20 "_law_step" = true) (k20 : PySem.W.keepIn K (.ref f20) = true)
    (a21 : PySem.W.nsIn K mainGlobals "_law_steps" = some (some (.ref f21))) (l21 : K.lookup f21 = some ⟨oc21, od21, .func (PySem.W.fnOf "_law_steps" "_law_steps" (defArgs s_law_steps) (defBody s_law_steps) (defScope s_law_steps) .none kV21 dc21 pm21 an21 cd21 ct21), sl21⟩) (c21 : PySem.W.codeIn K cd21 "_law_steps" = true) (k21 : PySem.W.keepIn K (.ref f21) = true)
    (a22 : PySem.W.nsIn K mainGlobals "_law_wide" = some (some (.ref f22))) (l22 : K.lookup f22 = some ⟨oc22, od22, .func (PySem.W.fnOf "_law_wide" "_law_wide" (defArgs s_law_wide) (defBody s_law_wide) (defScope s_law_wide) .none kV22 dc22 pm22 an22 cd22 ct22), sl22⟩) (c22 : PySem.W.codeIn K cd22 "_law_wide" = true) (k22 : PySem.W.keepIn K (.ref f22) = true)
    (a23 : PySem.W.nsIn K mainGlobals "_law_great_pair" = some (some (.ref f23))) (l23 : K.lookup f23 = some ⟨oc23, od23, .func (PySem.W.fnOf "_law_great_pair" "_law_great_pair" (defArgs s_law_great_pair) (defBody s_law_great_pair) (defScope s_law_great_pair) .none kV23 dc23 pm23 an23 cd23 ct23), sl23⟩) (c23 : PySem.W.codeIn K cd23 "_law_great_pair" = true) (k23 : PySem.W.keepIn K (.ref f23) = true)
    (a24 : PySem.W.nsIn K mainGlobals "_law_wide_pair" = some (some (.ref f24))) (l24 : K.lookup f24 = some ⟨oc24, od24, .func (PySem.W.fnOf "_law_wide_pair" "_law_wide_pair" (defArgs s_law_wide_pair) (defBody s_law_wide_pair) (defScope s_law_wide_pair) .none kV24 dc24 pm24 an24 cd24 ct24), sl24⟩) (c24 : PySem.W.codeIn K cd24 "_law_wide_pair" = true) (k24 : PySem.W.keepIn K (.ref f24) = true)
    (a25 : PySem.W.nsIn K mainGlobals "law" = some (some (.ref f25))) (l25 : K.lookup f25 = some ⟨oc25, od25, .func (PySem.W.fnOf "law" "law" (defArgs slaw) (defBody slaw) (defScope slaw) .none kV25 dc25 pm25 an25 cd25 ct25), sl25⟩) (c25 : PySem.W.codeIn K cd25 "law" = true) (k25 : PySem.W.keepIn K (.ref f25) = true)
    (z0 : PySem.W.nsIn K mainGlobals "list" = some none) (z1 : PySem.W.nsIn K mainGlobals "sum" = some none) (z2 : PySem.W.nsIn K mainGlobals "len" = some none) (z3 : PySem.W.nsIn K mainGlobals "range" = some none) (z4 : PySem.W.nsIn K mainGlobals "repr" = some none) (z5 : PySem.W.nsIn K mainGlobals "abs" = some none) (z6 : PySem.W.nsIn K mainGlobals "max" = some none) (z7 : PySem.W.nsIn K mainGlobals "min" = some none) (z8 : PySem.W.nsIn K mainGlobals "tuple" = some none) (z9 : PySem.W.nsIn K mainGlobals "int" = some none) (z10 : PySem.W.nsIn K mainGlobals "sorted" = some none) (z11 : PySem.W.nsIn K mainGlobals "set" = some none) :
    ∃ fd : FuncData, (∀ (s : Shared) (v : Value), BindsTo s fd ⟨[v], []⟩ [("_law_script", v)]) ∧ ∀ base : Heap, K.In base → base.Ns mainGlobals mg → FnG l.prog w K mg base CX0 7 fa fd ["_law_script"] (spLaw K) := by
  have e := hfa.symm.trans (PySem.W.mg_of X G a25)
  cases e
  have T : Bt mg := ⟨PySem.W.mg_none_of X G z0, PySem.W.mg_none_of X G z1, PySem.W.mg_none_of X G z2, PySem.W.mg_none_of X G z3, PySem.W.mg_none_of X G z4, PySem.W.mg_none_of X G z5, PySem.W.mg_none_of X G z6, PySem.W.mg_none_of X G z7, PySem.W.mg_none_of X G z8, PySem.W.mg_none_of X G z9, PySem.W.mg_none_of X G z10, PySem.W.mg_none_of X G z11⟩
  have F0 := fun_mk (st := s_law_deck) l0 c0 k0
  have b0 := F0.binds (ps := ["_law_script"]) fun _ _ _ _ _ _ us hl => match us, hl with | [_], _ => rfl
  have F1 := fun_mk (st := s_law_draw) l1 c1 k1
  have b1 := F1.binds (ps := ["_law_deck_here", "_law_most"]) fun _ _ _ _ _ _ us hl => match us, hl with | [_, _], _ => rfl
  have F2 := fun_mk (st := s_law_unlike) l2 c2 k2
  have b2 := F2.binds (ps := ["_law_one", "_law_other"]) fun _ _ _ _ _ _ us hl => match us, hl with | [_, _], _ => rfl
  have F3 := fun_mk (st := s_law_less) l3 c3 k3
  have b3 := F3.binds (ps := ["_law_one", "_law_other"]) fun _ _ _ _ _ _ us hl => match us, hl with | [_, _], _ => rfl
  have F4 := fun_mk (st := s_law_parted) l4 c4 k4
  have b4 := F4.binds (ps := ["_law_one", "_law_other"]) fun _ _ _ _ _ _ us hl => match us, hl with | [_, _], _ => rfl
  have F5 := fun_mk (st := s_law_lowest) l5 c5 k5
  have b5 := F5.binds (ps := ["_law_n", "_law_m", "_law_d"]) fun _ _ _ _ _ _ us hl => match us, hl with | [_, _, _], _ => rfl
  have F6 := fun_mk (st := sgreatest_parting) l6 c6 k6
  have b6 := F6.binds (ps := ["n", "m"]) fun _ _ _ _ _ _ us hl => match us, hl with | [_, _], _ => rfl
  have F7 := fun_mk (st := sspot_of) l7 c7 k7
  have b7 := F7.binds (ps := ["n", "m", "d"]) fun _ _ _ _ _ _ us hl => match us, hl with | [_, _, _], _ => rfl
  have F8 := fun_mk (st := sstep_of) l8 c8 k8
  have b8 := F8.binds (ps := ["line"]) fun _ _ _ _ _ _ us hl => match us, hl with | [_], _ => rfl
  have F9 := fun_mk (st := sturn_of) l9 c9 k9
  have b9 := F9.binds (ps := ["one", "other"]) fun _ _ _ _ _ _ us hl => match us, hl with | [_, _], _ => rfl
  have F10 := fun_mk (st := s_law_turn) l10 c10 k10
  have b10 := F10.binds (ps := ["_law_one", "_law_other"]) fun _ _ _ _ _ _ us hl => match us, hl with | [_, _], _ => rfl
  have F11 := fun_mk (st := sside_of) l11 c11 k11
  have b11 := F11.binds (ps := ["line", "point"]) fun _ _ _ _ _ _ us hl => match us, hl with | [_, _], _ => rfl
  have F12 := fun_mk (st := sspot_at) l12 c12 k12
  have b12 := F12.binds (ps := ["line", "k", "m"]) fun _ _ _ _ _ _ us hl => match us, hl with | [_, _, _], _ => rfl
  have F13 := fun_mk (st := scommon_across) l13 c13 k13
  have b13 := F13.binds (ps := ["one", "other"]) fun _ _ _ _ _ _ us hl => match us, hl with | [_, _], _ => rfl
  have F14 := fun_mk (st := scommon_along) l14 c14 k14
  have b14 := F14.binds (ps := ["one", "other"]) fun _ _ _ _ _ _ us hl => match us, hl with | [_, _], _ => rfl
  have F15 := fun_mk (st := scommon) l15 c15 k15
  have b15 := F15.binds (ps := ["one", "other"]) fun _ _ _ _ _ _ us hl => match us, hl with | [_, _], _ => rfl
  have F16 := fun_mk (st := s_law_due_along) l16 c16 k16
  have b16 := F16.binds (ps := ["_law_one", "_law_other"]) fun _ _ _ _ _ _ us hl => match us, hl with | [_, _], _ => rfl
  have F17 := fun_mk (st := s_law_due) l17 c17 k17
  have b17 := F17.binds (ps := ["_law_one", "_law_other"]) fun _ _ _ _ _ _ us hl => match us, hl with | [_, _], _ => rfl
  have F18 := fun_mk (st := s_law_right) l18 c18 k18
  have b18 := F18.binds (ps := ["_law_one", "_law_other"]) fun _ _ _ _ _ _ us hl => match us, hl with | [_, _], _ => rfl
  have F19 := fun_mk (st := s_law_far) l19 c19 k19
  have b19 := F19.binds (ps := ["_law_deck_here"]) fun _ _ _ _ _ _ us hl => match us, hl with | [_], _ => rfl
  have F20 := fun_mk (st := s_law_step) l20 c20 k20
  have b20 := F20.binds (ps := ["_law_deck_here"]) fun _ _ _ _ _ _ us hl => match us, hl with | [_], _ => rfl
  have F21 := fun_mk (st := s_law_steps) l21 c21 k21
  have b21 := F21.binds (ps := ["_law_deck_here"]) fun _ _ _ _ _ _ us hl => match us, hl with | [_], _ => rfl
  have F22 := fun_mk (st := s_law_wide) l22 c22 k22
  have b22 := F22.binds (ps := ["_law_deck_here"]) fun _ _ _ _ _ _ us hl => match us, hl with | [_], _ => rfl
  have F23 := fun_mk (st := s_law_great_pair) l23 c23 k23
  have b23 := F23.binds (ps := ["_law_deck_here"]) fun _ _ _ _ _ _ us hl => match us, hl with | [_], _ => rfl
  have F24 := fun_mk (st := s_law_wide_pair) l24 c24 k24
  have b24 := F24.binds (ps := ["_law_deck_here"]) fun _ _ _ _ _ _ us hl => match us, hl with | [_], _ => rfl
  have F25 := fun_mk (st := slaw) l25 c25 k25
  refine ⟨PySem.W.fnOf "law" "law" (defArgs slaw) (defBody slaw) (defScope slaw) .none kV25 dc25 pm25 an25 cd25 ct25, fun s v => .of_eq rfl, fun base _ _ => ?_⟩
  have D_law_deck : Def l.prog w K mg base 1 "_law_deck" ["_law_script"] (spDeck K) := .mk1 F0 (ok_law_deck F0 T ) (PySem.W.mg_of X G a0) b0
  have D_law_draw : Def l.prog w K mg base 1 "_law_draw" ["_law_deck_here", "_law_most"] spDraw := .mk1 F1 (ok_law_draw F1 T ) (PySem.W.mg_of X G a1) b1
  have D_law_unlike : Def l.prog w K mg base 1 "_law_unlike" ["_law_one", "_law_other"] (spUnlike K) := .mk1 F2 (ok_law_unlike F2 T ) (PySem.W.mg_of X G a2) b2
  have D_law_less : Def l.prog w K mg base 1 "_law_less" ["_law_one", "_law_other"] (spLess K) := .mk1 F3 (ok_law_less F3 T ) (PySem.W.mg_of X G a3) b3
  have D_law_parted : Def l.prog w K mg base 1 "_law_parted" ["_law_one", "_law_other"] spGp := .mk1 F4 (ok_law_parted F4 T ) (PySem.W.mg_of X G a4) b4
  have D_law_lowest : Def l.prog w K mg base 2 "_law_lowest" ["_law_n", "_law_m", "_law_d"] (spLowest K) := .mk1 F5 (ok_law_lowest F5 T D_law_parted) (PySem.W.mg_of X G a5) b5
  have Dgreatest_parting : Def l.prog w K mg base 1 "greatest_parting" ["n", "m"] spGp := .mk1 F6 (okgreatest_parting F6 T ) (PySem.W.mg_of X G a6) b6
  have Dspot_of : Def l.prog w K mg base 2 "spot_of" ["n", "m", "d"] spSpotOf := .mk1 F7 (okspot_of F7 T Dgreatest_parting) (PySem.W.mg_of X G a7) b7
  have Dstep_of : Def l.prog w K mg base 1 "step_of" ["line"] (spStep K) := .mk1 F8 (okstep_of F8 T ) (PySem.W.mg_of X G a8) b8
  have Dturn_of : Def l.prog w K mg base 1 "turn_of" ["one", "other"] (spTurn K) := .mk1 F9 (okturn_of F9 T ) (PySem.W.mg_of X G a9) b9
  have D_law_turn : Def l.prog w K mg base 1 "_law_turn" ["_law_one", "_law_other"] (spTurn K) := .mk1 F10 (ok_law_turn F10 T ) (PySem.W.mg_of X G a10) b10
  have Dside_of : Def l.prog w K mg base 2 "side_of" ["line", "point"] (spSide K) := .mk1 F11 (okside_of F11 T Dstep_of Dturn_of) (PySem.W.mg_of X G a11) b11
  have Dspot_at : Def l.prog w K mg base 3 "spot_at" ["line", "k", "m"] (spSpotAt K) := .mk1 F12 (okspot_at F12 T Dstep_of Dspot_of) (PySem.W.mg_of X G a12) b12
  have Dcommon_across : Def l.prog w K mg base 4 "common_across" ["one", "other"] (spTwo K acr fun l r => trn (less l.2 l.1) (less r.2 r.1) ≠ 0) := .mk1 F13 (okcommon_across F13 T Dstep_of Dturn_of Dspot_at) (PySem.W.mg_of X G a13) b13
  have Dcommon_along : Def l.prog w K mg base 1 "common_along" ["one", "other"] (spTwo K alo fun _ _ => True) := .mk1 F14 (okcommon_along F14 T ) (PySem.W.mg_of X G a14) b14
  have Dcommon : Def l.prog w K mg base 5 "common" ["one", "other"] (spTwo K cmn fun _ _ => True) := .mk1 F15 (okcommon F15 T Dstep_of Dturn_of Dside_of Dcommon_across Dcommon_along) (PySem.W.mg_of X G a15) b15
  have D_law_due_along : Def l.prog w K mg base 1 "_law_due_along" ["_law_one", "_law_other"] (spTwo K alo fun _ _ => True) := .mk1 F16 (ok_law_due_along F16 T ) (PySem.W.mg_of X G a16) b16
  have D_law_due : Def l.prog w K mg base 3 "_law_due" ["_law_one", "_law_other"] (spTwo K cmn fun _ _ => True) := .mk1 F17 (ok_law_due F17 T D_law_less D_law_turn D_law_lowest D_law_due_along) (PySem.W.mg_of X G a17) b17
  have D_law_right : Def l.prog w K mg base 6 "_law_right" ["_law_one", "_law_other"] (spRight K) := .mk1 F18 (ok_law_right F18 T D_law_due Dcommon) (PySem.W.mg_of X G a18) b18
  have D_law_far : Def l.prog w K mg base 2 "_law_far" ["_law_deck_here"] (spNum 400000) := .mk1 F19 (ok_law_far F19 T D_law_draw) (PySem.W.mg_of X G a19) b19
  have D_law_step : Def l.prog w K mg base 2 "_law_step" ["_law_deck_here"] (spNum 60000) := .mk1 F20 (ok_law_step F20 T D_law_draw) (PySem.W.mg_of X G a20) b20
  have D_law_steps : Def l.prog w K mg base 3 "_law_steps" ["_law_deck_here"] (spStepsP K) := .mk1 F21 (ok_law_steps F21 T D_law_step) (PySem.W.mg_of X G a21) b21
  have D_law_wide : Def l.prog w K mg base 2 "_law_wide" ["_law_deck_here"] (spNum 1000000) := .mk1 F22 (ok_law_wide F22 T D_law_draw) (PySem.W.mg_of X G a22) b22
  have D_law_great_pair : Def l.prog w K mg base 4 "_law_great_pair" ["_law_deck_here"] (spPair K) := .mk1 F23 (ok_law_great_pair F23 T D_law_draw D_law_far D_law_steps D_law_unlike) (PySem.W.mg_of X G a23) b23
  have D_law_wide_pair : Def l.prog w K mg base 3 "_law_wide_pair" ["_law_deck_here"] (spPair K) := .mk1 F24 (ok_law_wide_pair F24 T D_law_draw D_law_wide) (PySem.W.mg_of X G a24) b24
  exact oklaw F25 T D_law_deck D_law_great_pair D_law_wide_pair D_law_right
end Cl
open PySem PySem.W PyProof.Rows
set_option maxHeartbeats 0 in
theorem PySem.Challenge.cw_cornerlines_k09_in_common_of_great_numbe_holds : PySem.Challenge.rw_cornerlines_k09_in_common_of_great_numbe.Holds := by
  w_on; o_law; k_head; (case hw => w_witness2)
  k_fill
  refine Cl.endG (l := PySem.Challenge.rw_cornerlines_k09_in_common_of_great_numbe) (n := 63) (k := 7) (x := "_law_script") (sp := fun w => Cl.spLaw _) rfl (by decide) rfl ⟨⟨rfl, by decide, by decide⟩, rfl⟩ (fun w h Y => PySem.W.kIn_of Y) ?F (fun _ _ a ns hl _ _ hS => ⟨a, ns, rfl, hS, hl, fun _ => rfl⟩)
  case F =>
    intro w mg fa h KX G hmg
    refine' Cl.all_mk KX G hmg ?a0 ?l0 ?c0 ?k0 ?a1 ?l1 ?c1 ?k1 ?a2 ?l2 ?c2 ?k2 ?a3 ?l3 ?c3 ?k3 ?a4 ?l4 ?c4 ?k4 ?a5 ?l5 ?c5 ?k5 ?a6 ?l6 ?c6 ?k6 ?a7 ?l7 ?c7 ?k7 ?a8 ?l8 ?c8 ?k8 ?a9 ?l9 ?c9 ?k9 ?a10 ?l10 ?c10 ?k10 ?a11 ?l11 ?c11 ?k11 ?a12 ?l12 ?c12 ?k12 ?a13 ?l13 ?c13 ?k13 ?a14 ?l14 ?c14 ?k14 ?a15 ?l15 ?c15 ?k15 ?a16 ?l16 ?c16 ?k16 ?a17 ?l17 ?c17 ?k17 ?a18 ?l18 ?c18 ?k18 ?a19 ?l19 ?c19 ?k19 ?a20 ?l20 ?c20 ?k20 ?a21 ?l21 ?c21 ?k21 ?a22 ?l22 ?c22 ?k22 ?a23 ?l23 ?c23 ?k23 ?a24 ?l24 ?c24 ?k24 ?a25 ?l25 ?c25 ?k25 ?z0 ?z1 ?z2 ?z3 ?z4 ?z5 ?z6 ?z7 ?z8 ?z9 ?z10 ?z11
    (case a0 => k_is); (case l0 => k_is); (case c0 => k_is); (case k0 => k_is); (case a1 => k_is); (case l1 => k_is); (case c1 => k_is); (case k1 => k_is); (case a2 => k_is); (case l2 => k_is); (case c2 => k_is); (case k2 => k_is); (case a3 => k_is); (case l3 => k_is); (case c3 => k_is); (case k3 => k_is); (case a4 => k_is); (case l4 => k_is); (case c4 => k_is); (case k4 => k_is); (case a5 => k_is); (case l5 => k_is); (case c5 => k_is); (case k5 => k_is); (case a6 => k_is); (case l6 => k_is); (case c6 => k_is); (case k6 => k_is); (case a7 => k_is); (case l7 => k_is); (case c7 => k_is); (case k7 => k_is); (case a8 => k_is); (case l8 => k_is); (case c8 => k_is); (case k8 => k_is); (case a9 => k_is); (case l9 => k_is); (case c9 => k_is); (case k9 => k_is); (case a10 => k_is); (case l10 => k_is); (case c10 => k_is); (case k10 => k_is); (case a11 => k_is); (case l11 => k_is); (case c11 => k_is); (case k11 => k_is); (case a12 => k_is); (case l12 => k_is); (case c12 => k_is); (case k12 => k_is); (case a13 => k_is); (case l13 => k_is); (case c13 => k_is); (case k13 => k_is); (case a14 => k_is); (case l14 => k_is); (case c14 => k_is); (case k14 => k_is); (case a15 => k_is); (case l15 => k_is); (case c15 => k_is); (case k15 => k_is); (case a16 => k_is); (case l16 => k_is); (case c16 => k_is); (case k16 => k_is); (case a17 => k_is); (case l17 => k_is); (case c17 => k_is); (case k17 => k_is); (case a18 => k_is); (case l18 => k_is); (case c18 => k_is); (case k18 => k_is); (case a19 => k_is); (case l19 => k_is); (case c19 => k_is); (case k19 => k_is); (case a20 => k_is); (case l20 => k_is); (case c20 => k_is); (case k20 => k_is); (case a21 => k_is); (case l21 => k_is); (case c21 => k_is); (case k21 => k_is); (case a22 => k_is); (case l22 => k_is); (case c22 => k_is); (case k22 => k_is); (case a23 => k_is); (case l23 => k_is); (case c23 => k_is); (case k23 => k_is); (case a24 => k_is); (case l24 => k_is); (case c24 => k_is); (case k24 => k_is); (case a25 => k_is); (case l25 => k_is); (case c25 => k_is); (case k25 => k_is); (case z0 => k_is); (case z1 => k_is); (case z2 => k_is); (case z3 => k_is); (case z4 => k_is); (case z5 => k_is); (case z6 => k_is); (case z7 => k_is); (case z8 => k_is); (case z9 => k_is); (case z10 => k_is); (case z11 => k_is)
