import PyProof.Rows.All
import Wide.All
import OpenK.AllK
import Wide.FinOn
import PySem.Challenge.RW_cornerlines_k06_paths_written_and_read
import HandS.ForMost
import HandS.Wide
import HandS.EndBits
import HandS.AnyAll
import HandS.EndTab
import PyProof.ReprRoads
import KE.KRevSl
import HandS.IsInst
import HandS.TryOnly
import PyProof.GenCompD
import KE.KIsAll
import KE.DataMinMax
import HandS.TupSets
import KE.SortData
import HandS.Style
import KE.GoesNew
import KE.GoesMore
import HandS.Iter
import HandS.Zip
import HandS.Star
import HandS.Walk
import HandS.SortInts
import HandS.TupAny
import KE.GoesEnum
import PyProof.WalksPairs
import HandS.Lambda
import KE.KMinKey
import HandS.SortKw
import HandS.GenOver
import HandS.GenList
import HandS.DictComp
import HandS.WordsExc
import HandS.ExcIs
import KE.GoesRaise
import HandS.Comp
import HandS.Text
import HandS.FStr
import HandS.Deep
set_option Elab.async false
set_option linter.all false
set_option maxRecDepth 100000
namespace Cl
open PySem PySem.Spec PyProof.Rows L2

/-! ### promises of defs that may be shown (repr) what stands on no guard's list -/
structure RG (k : Nat) (A : Around) : Prop where
  room : Room k A
  gd : A.guards = some []
theorem RG.mono {j k : Nat} {A : Around} (r : RG k A) (h : j ≤ k) : RG j A :=
  ⟨r.room.mono h, r.gd⟩
structure FnG (P : Program) (w : World) (K : PySem.W.Frag) (mg : Str → Option Value)
    (base : Heap) (CX : CXT) (k : Nat) (f : Addr) (fd : FuncData) (ps : List Str) (sp : Sp) : Prop where
  len : ∀ vs H Q E, sp vs H Q E → vs.length = ps.length
  run : ∀ A outer s H args us vs Q E, RG k A → Env0 P w K mg base A outer s H →
    BindsTo s fd args (ps.zip us) → Vals vs us → sp vs H Q E →
    codeAny (model P w) A (.call (.ref f) args) (CR CX outer P w H s Q E) s
section
variable {P : Program} {w : World} {K : PySem.W.Frag} {mg : Str → Option Value} {base : Heap} {CX : CXT}
theorem toG {k : Nat} {f : Addr} {fd : FuncData} {ps : List Str} {sp : Sp}
    (F : FnOk P w K mg base CX k f fd ps sp) : FnG P w K mg base CX k f fd ps sp :=
  ⟨F.len, fun A outer s H args us vs Q E r => F.run A outer s H args us vs Q E r.room⟩

/-- a def with what its body does, where no guard is set -/
theorem okG {x qual : Str} {st : Stmt} {f : Addr} {fd : FuncData} {N ps : List Str} {k : Nat} {sp : Sp}
    (F : Fun K x qual st f fd) (S : FnScope N ps (defScope st))
    (len : ∀ vs H Q E, sp vs H Q E → vs.length = ps.length)
    (body : ∀ (cdv : Value) (A : Around) (outer : List Env) (s : Shared) (H : Hp) (vs : List V) (Q : VK) (E : XK),
      RG k (A.deeper (envOfC qual (defScope st) s.heap.objs.size f cdv)) → sp vs H Q E →
      ∃ t, PSs (cxOf CX0 P w K mg base N qual (defScope st) f cdv A outer s H E).nox (defBody st) t ∧
        t { nx := fun _ H' => Q .non H', rt := Q } (start N vs) H) :
    FnG P w K mg base CX0 (k + 1) f fd ps sp := by
  obtain ⟨oc, od, kV, doc, pm, an, cdv, ct, osl, rfl, lk, hcd⟩ := F.ex
  constructor
  · exact len
  intro A outer s H args us vs Q E hr e0 hb r hsp
  have nvs := len _ _ _ _ hsp
  have keepB : ∀ b o, base.get? b = some o → s.heap.get? b = some o := fun b o z => (e0.bs b o z).1
  have inK : K.In s.heap := e0.mod.kin.keeps keepB
  have nolim : s.heap.NoLimit := e0.mod.nolimit.keeps keepB
  have kinds : ∀ y ∈ ps.zip us, (defScope st).names.lookup y.1 = some .local ∨
      ((defScope st).names.lookup y.1 = some .cell ∧
        ((cellsFrom (s.heap.objs.size + 1) (defScope st).names []).lookup y.1).isSome = true) := by
    rintro ⟨n, v⟩ hy
    rcases S.par n (List.of_mem_zip hy).1 with z | z
    · exact .inl z
    · exact .inr ⟨z, PySem.W.cellsFrom_some _ _ _ (.inl z)⟩
  refine codeAny_call_function hr.room.depth (inK _ _ lk) rfl S.co S.gen rfl
    (PySem.W.codeRec_of inK hcd) (hb _ _ _ _ ?_)
  refine wpAny_newFunctionEnv_cells S.kind kinds fun env he s1 x => ?_
  subst he
  refine ⟨nolim.keeps x.toInCall.keep, codeAny_func ?_⟩
  have hr2 : RG k (A.deeper (envOfC qual (defScope st) s.heap.objs.size f cdv)) := ⟨hr.room.deeper _, hr.gd⟩
  obtain ⟨t, ht, hq⟩ := body cdv A outer s H vs Q E hr2 hsp
  have I : Inv (cxOf CX0 P w K mg base N qual (defScope st) f cdv A outer s H E) [] (start N vs) H s1 :=
    inv_start S hr.room.hd e0 nvs r x
  refine wpAny_mono (ht.nox.run [] s1 (start N vs) H _ I hq) (fun fl s' hs => ?_) fun _ _ z => z
  match fl, hs with
  | .ret u, ⟨v, σ', H', J, rv, q⟩ => exact ⟨v, H', J.os, J.bare, J.base, J.hok, rv, q⟩
  | .next, ⟨σ', H', J, q⟩ => exact ⟨V.non, H', J.os, J.bare, J.base, J.hok, rfl, q⟩
  | .brk, ⟨_, _, _, q⟩ => exact q.elim
  | .cont, ⟨_, _, _, q⟩ => exact q.elim
end

section
variable {X : Cx} {CX : CXT} {k : Nat} {f : Addr} {fd : FuncData} {ps : List Str} {sp : Sp} {dvs : List V}
  {ds : List Value} {E : XK} {x : Str} {p pos : Pos} {e : Expr} {es : List Expr} {t : TA}
/-- f(e, ..) of such a def -/
theorem callG (F : FnG X.prog X.w X.K X.mg X.base CX k f fd ps sp) (hr : RG k X.A) (hg : Gl X x)
    (hm : X.mg x = some (.ref f)) (hk : PySem.W.keepIn X.K (.ref f) = true) (hb : Binds X.K fd ps ds)
    (hd : Vals dvs ds) (hx : Passes CX X E) (ha : PA X (e :: es) t)
    (hdb : (x == ("__debug__" : Str)) = false := by decide)
    (he : starEach (e :: es) X.env = (false, eval e X.env) :: starEach es X.env := by rfl)
    (hpl : (backTo pos (starEach es X.env)).any (·.1) = false := by rfl) :
    PE X (.Call (.Name x p) (e :: es) [] pos) (tCall sp dvs E t) := by
  constructor
  intro pins s σ H Q I h
  refine wpAny_Call_Name_kw (ld_glob I hg hm ?_ hdb)
  refine PySem.W.callWith_K (h₀ := X.base) I.ok.mod.kin hk ?_ he hpl
  refine thn (ha.run pos pins s σ H _ I h) fun us s1 ⟨vs, H1, I1, r, q⟩ => ⟨I1.kIn, ?_⟩
  have r2 : Vals (vs ++ dvs) (us ++ ds) := r.append hd
  have n2 : (us ++ ds).length = ps.length := r2.length.symm.trans (F.len _ _ _ _ q)
  have run := F.run X.A X.stack s1 H1 ⟨us, []⟩ (us ++ ds) (vs ++ dvs) Q E hr I1.env0 (hb s1 us I1.kIn n2) r2 q
  refine wpAny_call (codeAny_mono run fun res s' hq => ?_)
  match res, hq with
  | .error ee, hq => exact hx pins σ H1 s1 ee s' I1 hq
  | .ok (.ret u), hq => exact I1.after hq
  | .ok .next, hq => exact hq.elim
  | .ok .brk, hq => exact hq.elim
  | .ok .cont, hq => exact hq.elim
end

/-! ### repr of data -/
section
variable {X : Cx}
/-- what repr asks of a datum that stands at v -/
def rRepr (K : PySem.W.Frag) : List V → Hp → VK → Prop := fun xs H Q => ∃ v d, xs = [v] ∧ Dp K H v d ∧
  d.showable = true ∧ d.hasDict = false ∧ d.depth ≤ 60 ∧ d.shown.length ≤ sizeLine ∧ Q (.str d.shown) H
theorem call_reprD (hg : X.A.guards = some []) (hu : X.A.units + 64 < cLine) : CallR X (.builtin "repr") (rRepr X.K) := by
  intro pins s σ H xs us Q I r h
  obtain ⟨v, d, rfl, hd, hs, hn, hdp, hl, q⟩ := h
  obtain ⟨u, rfl, ru⟩ := vals1 r
  cases hd with
  | non => cases ru; exact PySem.P.repr_of_none ⟨.str _, H, I.tok _, ⟨_, rfl⟩, q⟩
  | bl b => cases ru; exact PySem.P.repr_of_bool ⟨.str _, H, I.tok _, ⟨_, rfl⟩, q⟩
  | int i => obtain ⟨t, rfl⟩ := ru; exact PySem.P.repr_of_int (by simpa [PyData.showable] using hs) ⟨.str _, H, I.tok _, ⟨_, rfl⟩, q⟩
  | str x => obtain ⟨t, rfl⟩ := ru; exact PySem.P.repr_of_str ⟨.str _, H, I.tok _, ⟨_, rfl⟩, q⟩ (by simpa [PyData.shown] using hl)
  | lst h1 h2 =>
    cases ru
    obtain ⟨as, rd⟩ := Dp.reads I _ _ _ (Dp.lst h1 h2) rfl
    exact repr_of_reads' rd hs (fun z => by rw [hn] at z; cases z) hg (by omega) (fun _ _ z => z) (fun h' u tk hk => ⟨.str _, H, I.kept hk, ⟨_, rfl⟩, q⟩) hl
  | tup h1 h2 =>
    cases ru
    obtain ⟨as, rd⟩ := Dp.reads I _ _ _ (Dp.tup h1 h2) rfl
    exact repr_of_reads' rd hs (fun z => by rw [hn] at z; cases z) hg (by omega) (fun _ _ z => z) (fun h' u tk hk => ⟨.str _, H, I.kept hk, ⟨_, rfl⟩, q⟩) hl
end
/-! ### the end: the law's call, from a promise of this kind -/
theorem endG {l : PySem.W.OpenLaw} {n k : Nat} {q : Program} {loose : List Str} {XP : (Str → Option Value) → Heap → Prop}
    {YP : World → Heap → Prop} {d : DefRec} {K : Params → PySem.W.Frag} {sp : World → Sp} {x : Str}
    (hn : l.most = some n) (hn2 : n ≤ sizeLine) (hdf : d.params.defaults = []) (hr : RG k callerA)
    (hY : ∀ (w : World) (h : Heap), YP w h → (K w.params).In h)
    (F : ∀ (w : World) (mg : Str → Option Value) (fa : Addr) (h : Heap), (K w.params).In h → h.Ns mainGlobals mg →
      mg d.name = some (.ref fa) → ∃ fd : FuncData, (∀ (s : Shared) (u : Value), BindsTo s fd ⟨[u], []⟩ [(x, u)]) ∧
        ∀ base : Heap, (K w.params).In base → base.Ns mainGlobals mg → FnG l.prog w (K w.params) mg base CX0 k fa fd [x] (sp w))
    (hsp : ∀ (w : World) (H : Hp) (a : Addr) (ns : List Int), ns.length ≤ n → (∀ z ∈ ns, Builtin.Int.intBits z ≤ 1048576) →
      Only H → SqL (K w.params) H a (ns.map V.int) → sp w [.ref a] H (fun v _ => v = .bl true) E0) :
    PySem.W.WalkO q loose XP YP l.row.toRowW d [] (fun f vs => PySem.call f vs) := by
  refine Att.attach_callB hn hdf fun w s₀ s1 mg mb fa o pm cd doc a us ns G Y ho hd hcd hmg obj hints nlen bits gens => ?_
  have inK : (K w.params).In s1.heap := hY w _ Y
  obtain ⟨fd, bind, hF⟩ := F w mg fa _ inK G.T.g hmg
  have rv := vals_ints hints
  have nv : us.length = ns.length := hints.length
  have go : ∀ H : Hp, Only H → SqL (K w.params) H a (ns.map V.int) → HOk l.prog w H s1.heap → (∀ b, H b ≠ none → b = a) →
      (H a ≠ none → (K w.params).lookup a = none) → codeAny (model l.prog w) callerA (.call (.ref fa) ⟨[.ref a], []⟩)
        (fun r s' => r = .ok (.ret (.bool true)) ∧ OldK s1.heap s'.heap ∧ s'.os = s1.os ∧ AllBare s'.gens) s1 := by
    intro H only hS hok atA offK
    have none_or : ∀ b, H b = none ∨ b = a := fun b => by
      cases z : H b with
      | none => exact .inl rfl
      | some u => exact .inr (atA b (by rw [z]; intro y; cases y))
    have left : ∀ {b : Addr} {o : Obj}, s1.heap.get? b = some o → H b = none → (hidT s1.heap H).get? b = some o :=
      fun e z => hidT_get e z
    have notA : ∀ {b : Addr} {o : Obj} {es : Array DictEntry} {ep : Nat},
        s1.heap.get? b = some o → o.data = .dict es ep → H b = none := fun {b o es ep} e z => by
      rcases none_or b with y | rfl
      · exact y
      · rw [obj] at e
        cases e
        cases (show Data.seq us.toArray _ = Data.dict es ep from z)
    have spaces : ∀ {b : Addr} {m : Str → Option Value}, s1.heap.Ns b m → (hidT s1.heap H).Ns b m :=
      fun {b m} ⟨o, es, ep, e, z, r⟩ => ⟨o, es, ep, left e (notA e z), z, r⟩
    have inB : (K w.params).In (hidT s1.heap H) := fun b o e => left (inK b o e) (by
      rcases none_or b with y | rfl
      · exact y
      · cases z : H b with
        | none => rfl
        | some u =>
          rw [offK (by rw [z]; intro y; cases y)] at e
          cases e)
    have md : Mod (K w.params) mg (hidT s1.heap H) := by
      obtain ⟨mc, c1, c2⟩ := G.T.nolimit
      exact ⟨inB, spaces G.T.g, ⟨mb, spaces G.T.b, G.T.builtins⟩, ⟨mc, spaces c1, c2⟩⟩
    have e0 : Env0 l.prog w (K w.params) mg (hidT s1.heap H) callerA [] s1 H :=
      ⟨rfl, md, fun b o e => of_hidT e, Nat.le_of_eq (hidT_size _ _), trivial, fun b z => (nomatch z), hok, .of_eq gens⟩
    have run := (hF _ inB (spaces G.T.g)).run callerA [] s1 H ⟨[.ref a], []⟩ [.ref a] [.ref a] _ _ hr e0
      (bind s1 (.ref a)) (.cons rfl .nil) (hsp w H a ns nlen bits only hS)
    refine codeAny_mono run fun res s' h => ?_
    match res, h with
    | .error e, h => exact h.elim
    | .ok .next, h => exact h.elim
    | .ok .brk, h => exact h.elim
    | .ok .cont, h => exact h.elim
    | .ok (.ret u), ⟨v, H', os, bare, un, hok', r', q⟩ =>
      have q' : v = .bl true := q
      subst q'
      have r2 : u = Value.bool true := r'
      subst r2
      refine ⟨rfl, OldK.of_keep fun b o e => ?_, os, bare⟩
      cases z : H b with
      | none => exact un.keep b o e z (fun y => (nomatch y)) (fun y => (nomatch y))
      | some u =>
        rcases only b with y | ⟨ob, xs, y⟩
        · rw [z] at y
          cases y
        · obtain ⟨e1, _⟩ := hok b _ y
          obtain ⟨e2, _⟩ := hok' b _ (un.frzs b ob _ y)
          rw [e] at e1
          cases e1
          exact e2
  have small : ns.length ≤ sizeLine := Nat.le_trans nlen hn2
  cases hk : (K w.params).lookup a with
  | some o =>
    have e := inK a o hk
    rw [obj] at e
    cases e
    refine go (fun _ => none) (fun _ => .inl rfl) (.inr ⟨_, us.toArray, _, hk, rfl, rfl, rfl, ?_, by simpa using rv⟩)
      (fun b u z => nomatch z) (fun b z => absurd rfl z) fun z => absurd rfl z
    rw [List.size_toArray, nv]
    exact small
  | none =>
    let ob : Obj := { cls := .type "list", data := .seq us.toArray }
    have at_ : ∀ b, (fun c => if c = a then some (HO.frz ob (.lst (ns.map V.int))) else none : Hp) b ≠ none → b = a := fun b z => by
      by_cases y : b = a
      · exact y
      · exact absurd (if_neg y) z
    refine go (fun c => if c = a then some (.frz ob (.lst (ns.map V.int))) else none) (fun b => ?_) (.inl (.inr ⟨ob, if_pos rfl⟩))
      (fun b u z => ?_) at_ fun _ => hk
    · by_cases y : b = a
      · exact .inr ⟨_, _, if_pos y⟩
      · exact .inl (if_neg y)
    · obtain rfl := at_ b (by rw [z]; intro y; cases y)
      have z' := (if_pos rfl).symm.trans z
      cases z'
      exact ⟨obj, by rw [List.length_map]; exact small, us, _, rv, obj⟩
end Cl

namespace Cl
open PySem PySem.Spec PyProof.Rows L2
/-- what stood there stands there; a code object's table may have grown -/
def Keep (x : Option HO) (o : HO) : Prop := match o with
  | .tbl ps => TriplesOk ps.toList → ∃ ps' : Array Value, x = some (.tbl ps') ∧ TriplesOk ps'.toList
  | o => x = some o
theorem Keep.of {x : Option HO} {o : HO} (h : x = some o) : Keep x o := by
  cases o <;> first | exact h | exact fun t => ⟨_, h, t⟩
def Same (H H' : Hp) : Prop := ∀ b o, H b = some o → Keep (H' b) o
theorem Same.refl (H : Hp) : Same H H := fun _ _ e => .of e
theorem Same.trans {H H1 H2 : Hp} (a : Same H H1) (b : Same H1 H2) : Same H H2 := fun c o h => by
  have k := a c o h
  cases o with
  | tbl ps => exact fun t => let ⟨ps1, e1, t1⟩ := k t; b c (.tbl ps1) e1 t1
  | _ => exact b c _ k
theorem Same.upN {H H' : Hp} {p : Addr} {o : HO} (s : Same H H') (h : H p = none) : Same H (upd H' p o) := fun b x e => by
  rw [upd_ne (ne_of_none e h)]
  exact s b x e
theorem same_new {H : Hp} {p : Addr} {o : HO} (h : H p = none) : Same H (upd H p o) := (Same.refl H).upN h
/-- what is handed on where a new object stands at its place -/
def New (H : Hp) (o : HO) (Q : VK) : Prop := ∀ p H', H p = none → Same H H' → H' p = some o → Q (.ref p) H'
theorem New.go {H : Hp} {o : HO} {Q : VK} (h : New H o Q) : ∀ p, H p = none → Q (.ref p) (upd H p o) :=
  fun p n => h p _ n (same_new n) upd_same
section
variable {X : Cx} {e : Expr} {te : TE}
theorem valsRev : ∀ {xs : List V} {us : List Value}, Vals xs us → Vals xs.reverse us.reverse
  | _, _, .nil => .nil
  | _, _, .cons r t => by
    rw [List.reverse_cons, List.reverse_cons]
    exact (valsRev t).append (.cons r .nil)
/-- xs[::-1] of a list -/
def tRevL (K : PySem.W.Frag) (te : TE) : TE := fun σ H Q => te σ H fun x H1 => ∃ a xs, x = .ref a ∧ SqL K H1 a xs ∧ New H1 (.lst xs.reverse) Q
theorem pe_revL {p0 p1 p2 pos : Pos} {j : Nat} (he : PE X e te) :
    PE X (.Subscript e (.Slice none none (some (.UnaryOp .USub (.Constant (.int 1) j p0) p1)) p2) pos) (tRevL X.K te) := by
  constructor
  intro pins s σ H Q I h
  refine Subscript_ (thn (he.run pins s σ H _ I h) fun v s1 ⟨x, H1, I1, r1, a, xs, hx, hl, q⟩ => ?_)
  subst hx
  cases r1
  refine wpAny_Slice ?_
  rw [evalPart_none]
  refine wpAny_pure ?_
  refine wpAny_pure ?_
  rw [evalPart_some]
  have hneg : PE X (.UnaryOp .USub (.Constant (.int 1) j p0) p1) _ := pe_un un_neg pe_int
  refine thn (hneg.run pins s1 σ H1 (fun y H2 => y = .int (-1) ∧ H2 = H1) I1 ⟨1, rfl, rfl, rfl⟩) fun u s2 ⟨y, H2, I2, ry, hy, hH⟩ => ?_
  subst hy hH
  obtain ⟨t, rfl⟩ := ry
  obtain ⟨its, r, ht, hz⟩ := I2.list hl
  have I4 : Inv X pins σ H2 { s2 with heap := s2.heap.push { cls := .type "slice", data := .fields #[.none, .none, .int (-1) t] } } :=
    I2.kept (t' := s2.toks) fun b ob q => Heap.get?_push_of_some _ q
  obtain ⟨its, r, ht, hz⟩ := I4.list hl
  have hlen := r.length
  refine tail_any ht.isList.typeIs slot_list_getitem.lookup ?_ (by with_unfolding_all rfl)
  refine wpAny_getItem_list_slice ht.isList (Heap.IsSliceOf.new ..) .none .none (.int (-1) t) (by decide) ?_ (by rw [List.size_toArray] <;> omega)
  rw [PySem.W.krv_pick]
  refine ⟨.ref _, _, I4.laid (t' := s2.toks) (o := .lst xs.reverse) (fun b ob q => Heap.get?_push_of_some _ q) (Nat.le_refl _) ?_, rfl, q.go _ (I4.hok.fresh (Nat.le_refl _))⟩
  exact ⟨by rw [List.length_reverse]; exact hz, _, 0, valsRev r, Heap.get?_push_size _ rfl⟩
end
end Cl

namespace Cl
open PySem PySem.Spec PyProof.Rows L2

/-! ### a def of the text, with its promise -/
structure Def (P : Program) (w : World) (K : PySem.W.Frag) (mg : Str → Option Value) (base : Heap)
    (k : Nat) (x : Str) (ps : List Str) (sp : Sp) : Prop where
  ex : ∃ f fd, FnG P w K mg base CX0 k f fd ps sp ∧ mg x = some (.ref f) ∧
    PySem.W.keepIn K (.ref f) = true ∧ Binds K fd ps []
section
variable {X : Cx} {k : Nat} {ps : List Str} {sp : Sp} {x : Str} {p pos : Pos} {e : Expr} {es : List Expr} {t : TA}
theorem callD (D : Def X.prog X.w X.K X.mg X.base k x ps sp) (hr : RG k X.A) (ha : PA X (e :: es) t)
    (hg : Gl X x := by rfl) (hdb : (x == ("__debug__" : Str)) = false := by decide)
    (he : starEach (e :: es) X.env = (false, eval e X.env) :: starEach es X.env := by rfl)
    (hpl : (backTo pos (starEach es X.env)).any (·.1) = false := by rfl) :
    PE X (.Call (.Name x p) (e :: es) [] pos) (tCall sp [] E0 t) := by
  obtain ⟨f, fd, F, hm, hk, hb⟩ := D.ex
  exact callG F hr hg hm hk hb .nil pass0 ha hdb he hpl
end
section
variable {P : Program} {w : World} {K : PySem.W.Frag} {mg : Str → Option Value} {base : Heap}
theorem Def.mk1 {k : Nat} {x qual : Str} {st : Stmt} {f : Addr} {fd : FuncData} {ps : List Str} {sp : Sp}
    (F : Fun K x qual st f fd) (G : FnG P w K mg base CX0 k f fd ps sp) (hm : mg x = some (.ref f))
    (b : Binds K fd ps []) : Def P w K mg base k x ps sp := ⟨f, fd, G, hm, F.kp, b⟩
end

/-! ### heaps -/
theorem Same.rfl' {H : Hp} : Same H H := .refl H
/-! ### rules that hand on a heap in which a new object stands -/
section
variable {X : Cx} {es : List Expr} {e : Expr} {t : TA} {te : TE} {pos : Pos}
def tTupN (t : TA) : TE := fun σ H Q => t σ H fun xs H1 => xs.length ≤ sizeLine ∧ New H1 (.tup xs) Q
def tLstN (t : TA) : TE := fun σ H Q => t σ H fun xs H1 => xs.length ≤ sizeLine ∧ New H1 (.lst xs) Q
theorem tupN {j} (h : PA X es t) : PE X (.Tuple es j pos) (tTupN t) := by
  constructor
  intro pins s σ H Q I hq
  refine wpAny_Tuple_spliced ?_
  refine thn (h.run pos pins s σ H _ I hq) fun us s1 ⟨xs, H1, I1, r, z, q⟩ => ⟨by rw [← r.length]; exact z, ?_⟩
  refine ⟨.ref s1.heap.objs.size, _, I1.laid (t' := s1.toks) (o := .tup xs) (fun b u e => Heap.get?_push_of_some _ e) (Nat.le_refl _) ?_, rfl,
    q.go _ (I1.hok.fresh (Nat.le_refl _))⟩
  exact ⟨z, us, r, ⟨_, Heap.get?_push_size _ rfl, rfl, _, rfl⟩⟩
theorem lstN (h : PA X es t) : PE X (.List es pos) (tLstN t) := by
  constructor
  intro pins s σ H Q I hq
  refine wpAny_List_spliced ?_
  refine thn (h.run pos pins s σ H _ I hq) fun us s1 ⟨xs, H1, I1, r, z, q⟩ => ⟨by rw [← r.length]; exact z, ?_⟩
  refine ⟨.ref s1.heap.objs.size, _, I1.laid (t' := s1.toks) (o := .lst xs) (fun b u e => Heap.get?_push_of_some _ e) (Nat.le_refl _) ?_, rfl,
    q.go _ (I1.hok.fresh (Nat.le_refl _))⟩
  exact ⟨z, us, 0, r, Heap.get?_push_size _ rfl⟩
def rSlLN (K : PySem.W.Frag) : V → Option Int → Option Int → Hp → VK → Prop := fun x lo hi H Q =>
  ∃ a xs, x = .ref a ∧ SqL K H a xs ∧ New H (.lst (cutV xs lo hi)) Q
theorem sl_listN : SlR X (rSlLN X.K) := fun pins s σ H x v vl vu lo hi sl Q I rx hs pl pu ⟨a, xs, h1, h2, q⟩ =>
  sl_list pins s σ H x v vl vu lo hi sl Q I rx hs pl pu ⟨a, xs, h1, h2, q.go⟩
def rSlTN (K : PySem.W.Frag) : V → Option Int → Option Int → Hp → VK → Prop := fun x lo hi H Q =>
  ∃ a xs, x = .ref a ∧ SqT K H a xs ∧ ¬ (HT.sIx xs.length 0 lo = 0 ∧ HT.sIx xs.length xs.length hi = xs.length) ∧ New H (.tup (cutV xs lo hi)) Q
theorem sl_tupN : SlR X (rSlTN X.K) := fun pins s σ H x v vl vu lo hi sl Q I rx hs pl pu ⟨a, xs, h1, h2, h3, q⟩ =>
  sl_tup pins s σ H x v vl vu lo hi sl Q I rx hs pl pu ⟨a, xs, h1, h2, h3, q.go⟩
theorem call_list_ofN : CallR X (.type "list") (fun xs H Q => ∃ p ys, xs = [.ref p] ∧ (SqL X.K H p ys ∨ SqT X.K H p ys) ∧ New H (.lst ys) Q) :=
  fun pins s σ H xs us Q I r ⟨p, ys, h1, h2, q⟩ => call_list_of pins s σ H xs us Q I r ⟨p, ys, h1, h2, q.go⟩
end
/-! ### cuts: what stands between two statements, or behind a part, by a word of one's own -/
section
variable {X : Cx} {st : Stmt} {rest : List Stmt} {t u : TS} {e : Expr} {te : TE} {tt : TT}
def tCut (t u : TS) : TS := fun D σ H => ∃ M : L2.St → Hp → Prop, t { D with nx := M } σ H ∧ ∀ σ' H', M σ' H' → u D σ' H'
theorem cutS (h1 : PS X st t) (h2 : PSs X rest u) : PSs X (st :: rest) (tCut t u) := by
  constructor
  rintro pins s σ H D I ⟨M, h, k⟩
  refine wpAny_execs_cons (thn (h1.run pins s σ H _ I h) fun f s1 q => ?_)
  match f, q with
  | .next, ⟨σ', H', I', q⟩ => exact h2.run pins s1 σ' H' D I' (k _ _ q)
  | .ret v, q => exact q
  | .brk, q => exact q
  | .cont, q => exact q
def tMid (te : TE) : TE := fun σ H Q => ∃ M : VK, te σ H M ∧ ∀ v H', M v H' → Q v H'
theorem cutE (h : PE X e te) : PE X e (tMid te) := ⟨fun pins s σ H Q I ⟨M, h1, k⟩ =>
  thn (h.run pins s σ H M I h1) fun v s1 ⟨x, H1, I1, r1, q1⟩ => ⟨x, H1, I1, r1, k _ _ q1⟩⟩
def tMidT (tt : TT) : TT := fun σ H Q => ∃ M : Bool → Hp → Prop, tt σ H M ∧ ∀ b H', M b H' → Q b H'
theorem cutT (h : PT X e tt) : PT X e (tMidT tt) := ⟨fun pins s σ H Q I ⟨M, h1, k⟩ =>
  thn (h.run pins s σ H M I h1) fun b s1 ⟨H1, I1, q1⟩ => ⟨H1, I1, k _ _ q1⟩⟩
end
def lcL {K : PySem.W.Frag} {a : Addr} {xs : List V} {g : TG} {tt : TT} {te : TE} {vs : List Nat} {σ : L2.St} {H1 : Hp} {D : Addr} {Qd : Hp → Prop}
    (Pv : Nat → Hp → Prop) (hD : H1 D = none) (h0 : ∀ H', Same H1 H' → H' D = some (.lst []) → Pv 0 H') (hl : ∀ i H, i ≤ xs.length → Pv i H → SqL K H a xs)
    (hs : ∀ i x H, xs[i]? = some x → Pv i H → g x (wipe σ vs) H fun σ2 H2 => wipe σ2 vs = wipe σ vs ∧ tt σ2 H2 fun b H3 =>
      if b = true then te σ2 H3 fun y H4 => ∃ acc, H4 D = some (.lst acc) ∧ acc.length < sizeLine ∧ Pv (i + 1) (upd H4 D (.lst (acc ++ [y]))) else Pv (i + 1) H3)
    (hd : ∀ H, Pv xs.length H → Qd H) :=
  lc_list (K := K) (a := a) (xs := xs) (g := g) (tt := tt) (te := te) (vs := vs) (σ := σ) (H1 := H1) (D := D) (Qd := Qd) Pv (h0 _ (same_new hD) upd_same) hl hs hd
def lcT {K : PySem.W.Frag} {a : Addr} {xs : List V} {g : TG} {tt : TT} {te : TE} {vs : List Nat} {σ : L2.St} {H1 : Hp} {D : Addr} {Qd : Hp → Prop}
    (Pv : Nat → Hp → Prop) (hD : H1 D = none) (h0 : ∀ H', Same H1 H' → H' D = some (.lst []) → Pv 0 H') (hl : ∀ i H, i ≤ xs.length → Pv i H → SqT K H a xs)
    (hs : ∀ i x H, xs[i]? = some x → Pv i H → g x (wipe σ vs) H fun σ2 H2 => wipe σ2 vs = wipe σ vs ∧ tt σ2 H2 fun b H3 =>
      if b = true then te σ2 H3 fun y H4 => ∃ acc, H4 D = some (.lst acc) ∧ acc.length < sizeLine ∧ Pv (i + 1) (upd H4 D (.lst (acc ++ [y]))) else Pv (i + 1) H3)
    (hd : ∀ H, Pv xs.length H → Qd H) :=
  lc_tup (K := K) (a := a) (xs := xs) (g := g) (tt := tt) (te := te) (vs := vs) (σ := σ) (H1 := H1) (D := D) (Qd := Qd) Pv (h0 _ (same_new hD) upd_same) hl hs hd
/-- the heap without the deck -/
def hide (d l : Addr) (H : Hp) : Hp := fun b => if b = d ∨ b = l then none else H b
theorem hide_at {d l b : Addr} {H : Hp} {o : HO} (h : hide d l H b = some o) : b ≠ d ∧ b ≠ l ∧ H b = some o := by
  unfold hide at h
  split at h
  · cases h
  · rename_i n
    exact ⟨fun e => n (.inl e), fun e => n (.inr e), h⟩
theorem hide_ne {d l b : Addr} {H : Hp} (h1 : b ≠ d) (h2 : b ≠ l) : hide d l H b = H b := by
  unfold hide
  rw [if_neg]
  rintro (e | e)
  · exact h1 e
  · exact h2 e
/-- the deck stands: a list of the script's rest, its number, its count -/
structure Deck (H : Hp) (d l : Addr) : Prop where
  ne : d ≠ l
  ex : ∃ (ns : List Int) (s c : Int), H d = some (.lst [.ref l, .int s, .int c]) ∧ H l = some (.lst (ns.map V.int)) ∧ ns.length ≤ 63
/-- the deck still stands, and all else that stood stands -/
structure Step (d l : Addr) (H H' : Hp) : Prop where
  deck : Deck H' d l
  same : Same (hide d l H) (hide d l H')
section
variable {d l p a : Addr} {H H' H2 : Hp} {o : HO} {K : PySem.W.Frag} {xs : List V}
theorem Deck.nd (D : Deck H d l) (h : H p = none) : p ≠ d ∧ p ≠ l := by
  obtain ⟨ns, s, c, h1, h2, _⟩ := D.ex
  exact ⟨(ne_of_none h1 h).symm, (ne_of_none h2 h).symm⟩
theorem Step.refl (D : Deck H d l) : Step d l H H := ⟨D, .refl _⟩
theorem Step.trans (A : Step d l H H') (B : Step d l H' H2) : Step d l H H2 := ⟨B.deck, A.same.trans B.same⟩
theorem Same.hide (S : Same H H') : Same (Cl.hide d l H) (Cl.hide d l H') := fun b x e => by
  obtain ⟨e1, e2, e3⟩ := hide_at e
  rw [hide_ne e1 e2]
  exact S b x e3
theorem Step.of (D : Deck H d l) (S : Same H H') : Step d l H H' := by
  obtain ⟨ns, s, c, h1, h2, h3⟩ := D.ex
  exact ⟨⟨D.ne, ns, s, c, S _ _ h1, S _ _ h2, h3⟩, S.hide⟩
theorem Step.new (D : Deck H d l) (h : H p = none) : Step d l H (upd H p o) := Step.of D (same_new h)
/-- a new object ahead of a step is there behind it -/
theorem Step.at (S : Step d l H H') (h1 : p ≠ d) (h2 : p ≠ l) (h : H p = some o) : Keep (H' p) o := by
  have e := S.same p o (by rw [hide_ne h1 h2]; exact h)
  rw [hide_ne h1 h2] at e
  exact e
theorem Step.tupH (S : Step d l H H') (D : Deck H d l) (h : H p = some (.tup xs)) : H' p = some (.tup xs) := by
  obtain ⟨ns, s, c, h1, h2, h3⟩ := D.ex
  exact S.at (ne_of h h1 (by intro z; cases z)) (ne_of h h2 (by intro z; cases z)) h
end
theorem dropLast_map (ns : List Int) : (ns.map V.int).dropLast = ns.dropLast.map V.int := by
  rw [List.map_dropLast]

/-! ### promises of the deck's defs -/
def spDeck (K : PySem.W.Frag) : Sp := fun vs H Q _ => ∃ (a : Addr) (ns : List Int), vs = [.ref a] ∧ SqL K H a (ns.map V.int) ∧ ns.length ≤ 63 ∧
  ∀ d l H', Same H H' → Deck H' d l → Q (.ref d) H'
def spDraw : Sp := fun vs H Q _ => ∃ (d l : Addr) (m : Int), vs = [.ref d, .int m] ∧ 0 < m ∧ m < 2 ^ 64 ∧ Deck H d l ∧
  ∀ v H', 0 ≤ v → v < m → Step d l H H' → Q (.int v) H'
theorem mulc {a b : Int} (h : -(2 ^ 64) < a ∧ a < 2 ^ 64) : CMul a b := .inl h
theorem mulr {a b : Int} (h : -(2 ^ 64) < b ∧ b < 2 ^ 64) : CMul a b := .inr h
theorem modlt {a m : Int} (h : 0 < m) (h2 : m ≤ 2 ^ 64) : -(2 ^ 64) < a % m ∧ a % m < 2 ^ 64 := by
  have := Int.emod_nonneg a (show m ≠ 0 by omega)
  have := Int.emod_lt_of_pos a h
  omega
theorem shapedInts (ns : List Int) : SeqAt.shaped (.list (ns.map PyData.int)) = true := by
  have h1 : ∀ ns : List Int, PyData.canLayAll0 (ns.map PyData.int) = true := by
    intro ns
    induction ns with
    | nil => rfl
    | cons n r ih => simp [PyData.canLayAll0, PyData.canLay0, ih]
  have h2 : ∀ ns : List Int, PyData.depthAll (ns.map PyData.int) = 0 := by
    intro ns
    induction ns with
    | nil => rfl
    | cons n r ih => simp [PyData.depthAll, PyData.depth, ih]
  simp [SeqAt.shaped, PyData.canLay0, PyData.depth, h1, h2]
theorem dpInts {K : PySem.W.Frag} {H : Hp} : ∀ ns : List Int, DpAll K H (ns.map V.int) (ns.map PyData.int)
  | [] => .nil
  | n :: r => .cons (.int n) (dpInts r)
theorem eqvNil (ns : List Int) : PyData.eqv (.list (ns.map PyData.int)) (.list []) = ns.isEmpty := by
  cases ns <;> simp [PyData.eqv, PyData.eqvAll]

/-! ### data whose repr is short -/
structure Fine (d : PyData) : Prop where
  lv : d.leavesShort 200 = true
  sh : d.showable = true
  nd : d.hasDict = false
  dp : d.depth ≤ 60
  bk : d.bulk ≤ 80000
def okI (i : Int) : Prop := i.natAbs < 2 ^ 190
theorem okI.log {i : Int} (h : okI i) : i.natAbs.log2 < 190 := PySem.Flt.log2_lt_of (by decide) h
theorem okI.len {i : Int} (h : okI i) : (PyData.shown (.int i)).length ≤ 200 := by
  have e := int_text_length_le (k := 190) (by decide) h.log
  show (Str.ofString (toString i)).length ≤ 200
  rw [PySem.ofString_length]
  omega
theorem okI.of {i : Int} (h1 : -(2 ^ 189) < i) (h2 : i < 2 ^ 189) : okI i := by
  unfold okI
  omega
def rReprF (K : PySem.W.Frag) : List V → Hp → VK → Prop := fun xs H Q => ∃ v d, xs = [v] ∧ Dp K H v d ∧ Fine d ∧ Q (.str d.shown) H
theorem call_repr {X : Cx} (hg : X.A.guards = some []) (hu : X.A.units + 64 < cLine) : CallR X (.builtin "repr") (rReprF X.K) :=
  fun pins s σ H xs us Q I r ⟨v, d, h1, h2, f, q⟩ => call_reprD hg hu pins s σ H xs us Q I r ⟨v, d, h1, h2, f.sh, f.nd, f.dp, by
    have e := PyData.shown_le_bulk 200 (by decide) d f.lv
    have e2 := f.bk
    have e3 : sizeLine = 16777216 := by decide
    omega, q⟩
theorem fineInts2 {i j : Int} (h1 : okI i) (h2 : okI j) : Fine (.tuple [.int i, .int j]) := by
  have a1 := h1.len
  have a2 := h2.len
  have b1 : i.natAbs.log2 < 1920 := by have := h1.log; omega
  have b2 : j.natAbs.log2 < 1920 := by have := h2.log; omega
  constructor
  · simp [PyData.leavesShort, PyData.leavesShortAll, a1, a2]
  · simp [PyData.showable, PyData.showableAll, b1, b2]
  · rfl
  · simp [PyData.depth, PyData.depthAll]
  · simp [PyData.bulk, PyData.bulkAll]
theorem fineBool (b : Bool) : Fine (.bool b) := by constructor <;> first | rfl | (cases b <;> decide)
end Cl

namespace Cl
open PySem PySem.Spec PyProof.Rows L2
/-! ### the nearest whole number -/
def nr (n d : Int) : Int := (2 * n + d) / (2 * d)
theorem nr_law {n g : Int} (h : 0 < g) : nr n g = if 2 * n < (2 * (n / g) + 1) * g then n / g else n / g + 1 := by
  have e1 := Int.mul_ediv_add_emod n g
  have e2 := Int.emod_nonneg n (show g ≠ 0 by omega)
  have e3 := Int.emod_lt_of_pos n h
  generalize n / g = k at *
  generalize n % g = r at *
  subst e1
  unfold nr
  have c1 : (2 * k + 1) * g = 2 * (g * k) + g := by rw [Int.add_mul, Int.mul_assoc, Int.mul_comm k g]; omega
  have c2 : 2 * (g * k + r) + g = (2 * r + g) + (2 * g) * k := by rw [Int.mul_assoc 2 g k]; omega
  rw [c1, c2, Int.add_mul_ediv_left _ _ (show 2 * g ≠ 0 by omega)]
  split
  · rw [Int.ediv_eq_zero_of_lt (by omega) (by omega)]; omega
  · have c3 : 2 * r + g = (2 * r - g) + (2 * g) * 1 := by omega
    rw [c3, Int.add_mul_ediv_left _ _ (show 2 * g ≠ 0 by omega), Int.ediv_eq_zero_of_lt (by omega) (by omega)]; omega
theorem nr_move {n d g : Int} (h : 0 < g) : nr (n + d * g) g = nr n g + d := by
  unfold nr
  have c : 2 * (n + d * g) + g = (2 * n + g) + (2 * g) * d := by
    rw [Int.mul_add, Int.mul_assoc 2 g d, Int.mul_comm d g]; omega
  rw [c, Int.add_mul_ediv_left _ _ (show 2 * g ≠ 0 by omega)]
theorem nr_times {n g t : Int} (ht : 0 < t) : nr (n * t) (g * t) = nr n g := by
  unfold nr
  have c1 : 2 * (n * t) + g * t = (2 * n + g) * t := by rw [Int.add_mul, Int.mul_assoc]
  have c2 : 2 * (g * t) = (2 * g) * t := by rw [Int.mul_assoc]
  rw [c1, c2, Int.mul_ediv_mul_of_pos_left _ _ ht]
theorem nr_ok {n g B : Int} (h : 0 < g) (h1 : -B < n) (h2 : n < B) (hB : 0 < B) : -(B + 1) ≤ nr n g ∧ nr n g ≤ B + 1 := by
  unfold nr
  have hg : 0 < 2 * g := by omega
  constructor
  · refine Int.le_ediv_of_mul_le hg ?_
    have : B * 1 ≤ B * g := Int.mul_le_mul_of_nonneg_left (by omega) (by omega)
    have e : -(B + 1) * (2 * g) = -(2 * (B * g)) - 2 * g := by rw [Int.neg_mul, Int.add_mul, Int.mul_left_comm B 2 g]; omega
    rw [e]; omega
  · refine Int.ediv_le_of_le_mul hg ?_
    have : B * 1 ≤ B * g := Int.mul_le_mul_of_nonneg_left (by omega) (by omega)
    have e : (B + 1) * (2 * g) = 2 * (B * g) + 2 * g := by rw [Int.add_mul, Int.mul_left_comm B 2 g]; omega
    rw [e]; omega
def spNear : Sp := fun vs H Q _ => ∃ n d : Int, vs = [.int n, .int d] ∧ 0 < d ∧ d < 2 ^ 60 ∧ Q (.int (nr n d)) H
def spCorner (K : PySem.W.Frag) : Sp := fun vs H Q _ => ∃ (g : Int) (a : Addr) (x y : Int), vs = [.int g, .ref a] ∧ SqT K H a [.int x, .int y] ∧ 0 < g ∧ g < 2 ^ 60 ∧
  New H (.tup [.int (nr x g), .int (nr y g)]) Q

def spLaw (K : PySem.W.Frag) : Sp := fun vs H Q _ => ∃ (a : Addr) (ns : List Int), vs = [.ref a] ∧ SqL K H a (ns.map V.int) ∧ ns.length ≤ 63 ∧ ∀ H', Q (.bl true) H'
section
variable {X : Cx}
def CDivX (_ j : Int) : Prop := j ≠ 0 ∧ j.natAbs.log2 < 9000
theorem op_fdivX : OpR X (binaryOp .FloorDiv) (rI CDivX fun i j => .int (i.fdiv j)) :=
  opI fun i j _ _ _ _ _ hc q => floordiv_int hc.1 q (.inl (PyProof.noPylong_of_log2 hc.2))
end
/-! ### the greatest number that parts -/
def spGp : Sp := fun vs H Q _ => ∃ n m : Int, vs = [.int n, .int m] ∧ Q (.int (Int.gcd n m : Nat)) H
def gpar (n m d : Int) : Int := (Int.gcd (Int.gcd n m : Nat) d : Nat)
def spP (n m d : Int) : Int := if d < 0 then -gpar n m d else gpar n m d
def spSpotOf : Sp := fun vs H Q _ => ∃ n m d : Int, vs = [.int n, .int m, .int d] ∧ d ≠ 0 ∧ d.natAbs < 2 ^ 200 ∧
  New H (.tup [.int (n / spP n m d), .int (m / spP n m d), .int (d / spP n m d)]) Q
theorem gpar_dvd (n m d : Int) : gpar n m d ∣ n ∧ gpar n m d ∣ m ∧ gpar n m d ∣ d := by
  unfold gpar
  have h1 : (Int.gcd (Int.gcd n m : Nat) d : Int) ∣ (Int.gcd n m : Nat) := Int.gcd_dvd_left ..
  refine ⟨Int.dvd_trans h1 (Int.gcd_dvd_left ..), Int.dvd_trans h1 (Int.gcd_dvd_right ..), Int.gcd_dvd_right ..⟩
theorem gpar_pos {n m d : Int} (h : d ≠ 0) : 0 < gpar n m d := by
  unfold gpar
  have : 0 < Int.gcd (Int.gcd n m : Nat) d := Int.gcd_pos_of_ne_zero_right _ h
  omega
theorem gpar_le {n m d : Int} (h : d ≠ 0) : gpar n m d ≤ d.natAbs := by
  have := (gpar_dvd n m d).2.2
  have h2 : gpar n m d ∣ (d.natAbs : Int) := Int.dvd_natAbs.mpr this
  exact Int.le_of_dvd (by omega) h2
theorem spP_dvd (n m d : Int) : spP n m d ∣ n ∧ spP n m d ∣ m ∧ spP n m d ∣ d := by
  obtain ⟨h1, h2, h3⟩ := gpar_dvd n m d
  unfold spP
  split
  · exact ⟨Int.neg_dvd.mpr h1, Int.neg_dvd.mpr h2, Int.neg_dvd.mpr h3⟩
  · exact ⟨h1, h2, h3⟩
theorem spP_ne {n m d : Int} (h : d ≠ 0) : spP n m d ≠ 0 := by
  have := gpar_pos (n := n) (m := m) h
  unfold spP
  split <;> omega
/-- the spot of d above nought: some part that all three have, taken out -/
theorem spot_pos {n m d : Int} (h : 0 < d) : ∃ p : Int, 0 < p ∧ n = n / spP n m d * p ∧ m = m / spP n m d * p ∧ d = d / spP n m d * p ∧ 0 < d / spP n m d ∧ d / spP n m d ≤ d := by
  obtain ⟨h1, h2, h3⟩ := gpar_dvd n m d
  have h0 := gpar_pos (n := n) (m := m) (d := d) (by omega)
  have e : spP n m d = gpar n m d := if_neg (by omega)
  rw [e]
  have e3 := Int.ediv_mul_cancel h3
  refine ⟨gpar n m d, h0, (Int.ediv_mul_cancel h1).symm, (Int.ediv_mul_cancel h2).symm, e3.symm, ?_, Int.ediv_le_self _ (by omega)⟩
  exact Int.ediv_pos_of_pos_of_dvd h (by omega) h3
theorem nr_spot {n m d g : Int} (h : 0 < d) : nr (n / spP n m d) (d / spP n m d * g) = nr n (d * g) ∧ nr (m / spP n m d) (d / spP n m d * g) = nr m (d * g) := by
  obtain ⟨p, hp, e1, e2, e3, _⟩ := spot_pos (n := n) (m := m) h
  have c : d * g = d / spP n m d * g * p := by
    conv => lhs; rw [e3]
    rw [Int.mul_assoc, Int.mul_assoc, Int.mul_comm p g]
  have k1 := nr_times (n := n / spP n m d) (g := d / spP n m d * g) hp
  have k2 := nr_times (n := m / spP n m d) (g := d / spP n m d * g) hp
  rw [← e1, ← c] at k1
  rw [← e2, ← c] at k2
  exact ⟨k1.symm, k2.symm⟩
theorem nr_lies {n g : Int} (h : 0 < g) : (2 * nr n g - 1) * g ≤ 2 * n ∧ 2 * n < (2 * nr n g + 1) * g := by
  unfold nr
  have e1 := Int.mul_ediv_add_emod (2 * n + g) (2 * g)
  have e2 := Int.emod_nonneg (2 * n + g) (show 2 * g ≠ 0 by omega)
  have e3 := Int.emod_lt_of_pos (2 * n + g) (show 0 < 2 * g by omega)
  generalize (2 * n + g) / (2 * g) = k at *
  generalize (2 * n + g) % (2 * g) = r at *
  have c1 : (2 * k - 1) * g = 2 * g * k - g := by rw [Int.sub_mul, Int.mul_right_comm]; omega
  have c2 : (2 * k + 1) * g = 2 * g * k + g := by rw [Int.add_mul, Int.mul_right_comm]; omega
  omega
end Cl

namespace Cl
open PySem PySem.Spec PyProof.Rows L2
/-! ### kinds of things -/
def isI : V → Bool
  | .int _ => true
  | _ => false
def isB : V → Bool
  | .bl _ => true
  | _ => false
/-- a thing with the name of its class -/
inductive Kd (K : PySem.W.Frag) (H : Hp) : V → String → Prop where
  | non : Kd K H .non "NoneType"
  | bl (b : Bool) : Kd K H (.bl b) "bool"
  | int (i : Int) : Kd K H (.int i) "int"
  | str (x : Str) : Kd K H (.str x) "str"
  | lst {a : Addr} {xs : List V} (h : SqL K H a xs) : Kd K H (.ref a) "list"
  | tup {a : Addr} {xs : List V} (h : SqT K H a xs) : Kd K H (.ref a) "tuple"
  | dct {a : Addr} {kvs : List (Key × V)} (h : H a = some (.dK kvs)) : Kd K H (.ref a) "dict"
section
variable {K : PySem.W.Frag} {H : Hp} {v : V} {T : String}
theorem Kd.ty (h : Kd K H v T) : TyX K H v (.type T) := by
  cases h with
  | non => exact .base .non
  | bl b => exact .base (.bl b)
  | int i => exact .base (.int i)
  | str x => exact .base (.str x)
  | lst h =>
    rcases h with (h | ⟨o, h⟩) | ⟨o, its, n, h1, h2, _⟩
    · exact .base (.lst h)
    · exact .base (.frz h)
    · exact .kList h1 h2
  | tup h =>
    rcases h with (h | ⟨o, h⟩) | ⟨o, its, n, h1, h2, _⟩
    · exact .base (.tup h)
    · exact .fTuple h
    · exact .kTuple h1 h2
  | dct h => exact .base (.dK h)
theorem Kd.int? (h : Kd K H v T) : kitB T "int" = some (isI v || isB v) := by
  cases h <;> first | (show kitB _ _ = some true; decide +kernel) | (show kitB _ _ = some false; decide +kernel)
theorem Kd.bool? (h : Kd K H v T) : kitB T "bool" = some (isB v) := by
  cases h <;> first | (show kitB _ _ = some true; decide +kernel) | (show kitB _ _ = some false; decide +kernel)
theorem Kd.tuple? (h : Kd K H v T) : kitB T "tuple" = some (decide (T = "tuple")) := by
  cases h <;> first | (show kitB _ _ = some true; decide +kernel) | (show kitB _ _ = some false; decide +kernel)
theorem Kd.str? (h : Kd K H v T) : kitB T "str" = some (decide (T = "str")) := by
  cases h <;> first | (show kitB _ _ = some true; decide +kernel) | (show kitB _ _ = some false; decide +kernel)
end
theorem seT {K : PySem.W.Frag} {H H' : Hp} {a : Addr} {xs : List V} (e : Same H H') (h : SqT K H a xs) : SqT K H' a xs := by
  rcases h with (h | ⟨o, h⟩) | h
  · exact .inl (.inl (e _ _ h))
  · exact .inl (.inr ⟨o, e _ _ h⟩)
  · exact .inr h
/-- isinstance(thing, a built-in class) -/
theorem isi {K : PySem.W.Frag} {H : Hp} {v : V} {T c : String} {b : Bool} {Q : VK} (h : Kd K H v T) (e : kitB T c = some b) (q : Q (.bl b) H) :
    rIsi K [v, .ty c] H Q := ⟨v, .ty c, .type T, .type c, b, rfl, .ty c, h.ty, kit_ty e, q⟩
def spWhole (K : PySem.W.Frag) : Sp := fun vs H Q _ => ∃ v T, vs = [v] ∧ Kd K H v T ∧ Q (.bl (isI v)) H

/-! ### lists of draws -/
def Acc (d l pD : Addr) (H0 : Hp) (i : Nat) (P : Int → Prop) (H' : Hp) : Prop :=
  ∃ xs : List Int, Step d l H0 H' ∧ H' pD = some (.lst (xs.map V.int)) ∧ xs.length = i ∧ ∀ x ∈ xs, P x
section
variable {d l pD : Addr} {H0 H H4 : Hp} {i : Nat} {P : Int → Prop} {y : Int}
theorem Step.updN (S : Step d l H0 H4) (h1 : pD ≠ d) (h2 : pD ≠ l) (n : H0 pD = none) {o : HO} : Step d l H0 (upd H4 pD o) := by
  obtain ⟨ns, s, c, e1, e2, e3⟩ := S.deck.ex
  refine ⟨⟨S.deck.ne, ns, s, c, by rw [upd_ne h1.symm]; exact e1, by rw [upd_ne h2.symm]; exact e2, e3⟩, ?_⟩
  refine fun b x e => ?_
  obtain ⟨n1, n2, n3⟩ := hide_at e
  have e5 := S.same b x e
  rw [hide_ne n1 n2] at e5 ⊢
  rw [upd_ne (ne_of_none n3 n)]
  exact e5
theorem Acc.start (D : Deck H0 d l) (S : Same H0 H) (e : H pD = some (.lst [])) : Acc d l pD H0 0 P H :=
  ⟨[], Step.of D S, e, rfl, fun x h => nomatch h⟩
theorem Acc.turn (A : Acc d l pD H0 i P H) (S : Step d l H H4) (D : Deck H0 d l) (n : H0 pD = none) (hi : i < 1000) (h : P y) :
    ∃ acc, H4 pD = some (.lst acc) ∧ acc.length < sizeLine ∧ Acc d l pD H0 (i + 1) P (upd H4 pD (.lst (acc ++ [.int y]))) := by
  obtain ⟨xs, S0, e, l1, a⟩ := A
  obtain ⟨h1, h2⟩ := D.nd n
  refine ⟨_, S.at h1 h2 e, by rw [List.length_map, l1]; exact small1000 (by omega), xs ++ [y], (S0.trans S).updN h1 h2 n, ?_, by rw [List.length_append, l1]; rfl, fun x hx => ?_⟩
  · rw [upd_same, List.map_append]; rfl
  · rcases List.mem_append.mp hx with z | z
    · exact a x z
    · rw [List.mem_singleton.mp z]; exact h
end
def lcR {lo : Int} {n : Nat} {g : TG} {tt : TT} {te : TE} {vs : List Nat} {σ : L2.St} {H1 : Hp} {D : Addr} {Qd : Hp → Prop}
    (Pv : Nat → Hp → Prop) (hD : H1 D = none) (h0 : ∀ H', Same H1 H' → H' D = some (.lst []) → Pv 0 H')
    (hs : ∀ i H, i < n → Pv i H → g (.int (lo + i)) (wipe σ vs) H fun σ2 H2 => wipe σ2 vs = wipe σ vs ∧ tt σ2 H2 fun b H3 =>
      if b = true then te σ2 H3 fun y H4 => ∃ acc, H4 D = some (.lst acc) ∧ acc.length < sizeLine ∧ Pv (i + 1) (upd H4 D (.lst (acc ++ [y]))) else Pv (i + 1) H3)
    (hd : ∀ H, Pv n H → Qd H) :=
  lc_range (lo := lo) (n := n) (g := g) (tt := tt) (te := te) (vs := vs) (σ := σ) (H1 := H1) (D := D) (Qd := Qd) Pv (h0 _ (same_new hD) upd_same) hs hd
theorem two {xs : List Int} (h : xs.length = 2) : ∃ x y, xs = [x, y] := by
  match xs, h with
  | [x, y], _ => exact ⟨x, y, rfl⟩
end Cl

namespace Cl
open PySem PySem.Spec PyProof.Rows L2
/-! ### a test of a thing's kind by a small def, asked quietly -/
/-- the thing u stands in the heap with its class's name -/
def KQ (K : PySem.W.Frag) (h : Heap) (u : Value) (T : String) : Prop := ∃ P : Heap → Prop, PySem.W.KitX K u (.type T) P ∧ P h ∧ (∀ h' : Heap, (∀ a o, u = .ref a → h.get? a = some o → h'.get? a = some o) → P h') ∧
  u ≠ .builtin "__main__.__loader__#opaque" ∧ ∀ a, u = .ref a → ∃ o, h.get? a = some o ∧ o.cls = .type T
theorem kq_at {K : PySem.W.Frag} {h : Heap} {a : Addr} {T : String} (Z : PySem.W.KitX K (.ref a) (.type T) (PySem.W.KitAt a T)) (p : ∃ o, h.get? a = some o ∧ o.cls = .type T) : KQ K h (.ref a) T :=
  ⟨_, Z, p, fun h' k => let ⟨o, e, c⟩ := p; ⟨o, k a o rfl e, c⟩, (fun z => nomatch z), fun b e => by cases e; exact p⟩
theorem Kd.kq {X : Cx} {pins : List (Addr × Obj)} {σ : L2.St} {H : Hp} {s : Shared} {v : V} {T : String} {u : Value} (I : Inv X pins σ H s) (h : Kd X.K H v T) (r : RelV v u) : KQ X.K s.heap u T := by
  cases h with
  | non => cases (show u = Value.none from r); exact ⟨_, PySem.W.kitx_none, trivial, fun _ _ => trivial, (fun z => nomatch z), fun a z => nomatch z⟩
  | bl b => cases (show u = Value.bool b from r); exact ⟨_, PySem.W.kitx_bool, trivial, fun _ _ => trivial, (fun z => nomatch z), fun a z => nomatch z⟩
  | int i => obtain ⟨t, q⟩ := (show ∃ t, u = Value.int i t from r); cases q; exact ⟨_, PySem.W.kitx_int, trivial, fun _ _ => trivial, (fun z => nomatch z), fun a z => nomatch z⟩
  | str x => obtain ⟨t, q⟩ := (show ∃ t, u = Value.str x t from r); cases q; exact ⟨_, PySem.W.kitx_str, trivial, fun _ _ => trivial, (fun z => nomatch z), fun a z => nomatch z⟩
  | @lst a xs h =>
    cases (show u = Value.ref a from r)
    obtain ⟨its, rv, ht, hz⟩ := I.list h
    exact kq_at PySem.W.kitx_list ht.isList.typeIs
  | @tup a xs h =>
    cases (show u = Value.ref a from r)
    obtain ⟨its, rv, ht, hz⟩ := I.tuple h
    exact kq_at PySem.W.kitx_tuple ht.typeIs
  | @dct a kvs ea =>
    cases (show u = Value.ref a from r)
    obtain ⟨_, _, vs, _, o, es, ep, h1, h2, _⟩ := (show ObjOk X.prog X.w H s.heap a (.dK kvs) from I.hok a _ ea)
    exact kq_at PySem.W.kitx_dict ⟨o, h1, h2.1⟩
theorem KQ.keeps {K : PySem.W.Frag} {h h' : Heap} {u : Value} {T : String} (q : KQ K h u T) (k : ∀ a o, u = .ref a → h.get? a = some o → h'.get? a = some o) : KQ K h' u T := by
  obtain ⟨P, Z, p, m, n, c⟩ := q
  refine ⟨P, Z, m h' k, fun h'' k2 => m h'' fun a o e g => k2 a o e (k a o e g), n, fun a e => ?_⟩
  obtain ⟨o, g, w⟩ := c a e
  exact ⟨o, k a o e g, w⟩
section
variable {P : Program} {w : World} {K : PySem.W.Frag} {mg : Str → Option Value}
/-- the modules' names stand in this heap -/
def Stands (K : PySem.W.Frag) (mg : Str → Option Value) (h : Heap) : Prop := K.In h ∧ h.Ns mainGlobals mg ∧ (∃ mb, h.Ns builtinsNs mb ∧ ∀ x : Str, x ≠ "__name__" → mb x = bootBuiltins x) ∧ h.NoLimit
theorem Stands.keeps {h h' : Heap} (s : Stands K mg h) (k : ∀ b o, h.get? b = some o → h'.get? b = some o) : Stands K mg h' := by
  obtain ⟨a, b, ⟨mb, c, d⟩, e⟩ := s
  exact ⟨fun x o z => k _ _ (a x o z), b.keeps k, ⟨mb, c.keeps k, d⟩, e.keeps k⟩
/-- f(u): a test of u's class, nothing changed -/
structure QW (P : Program) (w : World) (K : PySem.W.Frag) (mg : Str → Option Value) (f : Addr) : Prop where
  run : ∀ (A : Around) (s : Shared) (u : Value) (T : String) (b1 b2 : Bool), A.depth < recursionLimit → Stands K mg s.heap → KQ K s.heap u T → kitB T "int" = some b1 → kitB T "bool" = some b2 →
    codeAny (model P w) A (.call (.ref f) ⟨[u], []⟩) (fun r s' => r = .ok (.ret (.bool (b1 && !b2))) ∧ Keeps s s') s
theorem keeps_trans {s s1 s2 : Shared} (a : Keeps s s1) (b : Keeps s1 s2) : Keeps s s2 := by
  obtain ⟨h, tk, rfl, k⟩ := a
  obtain ⟨h2, tk2, rfl, k2⟩ := b
  exact ⟨h2, tk2, rfl, fun b o e => k2 b o (k b o e)⟩
/-- isinstance(name, T) in an env of a function -/
theorem quiet_isi {A : Around} {E : Value → Shared → Prop} {env : Env} {s : Shared} {x c : Str} {m : Str → Option Value} {u : Value} {T tc : String} {b : Bool} {Q : Value → Shared → Prop} {p1 p2 p3 p4 : Pos}
    (hk : env.scope.kind = .function) (hx : env.kindOf x = some .local) (hi : env.kindOf "isinstance" = some .globalImplicit) (hc : env.kindOf c = some .globalImplicit) (hg : env.globals = mainGlobals) (hb : env.builtins = builtinsNs)
    (St : Stands K mg s.heap) (mi : mg "isinstance" = none) (mc : mg c = none) (bc : bootBuiltins c = some (.type tc)) (hn : s.heap.Ns env.locals m) (hm : m x = some u) (q : KQ K s.heap u T) (e : kitB T tc = some b)
    (h : ∀ tk, Q (.bool b) { s with toks := tk })
    (hd : (x == ("__debug__" : Str)) = false := by decide) (hdc : (c == ("__debug__" : Str)) = false := by decide) (hcn : c ≠ "__name__" := by decide)
    (he : starEach [.Name x p2, .Name c p3] env = (false, eval (.Name x p2) env) :: starEach [.Name c p3] env := by rfl) (he2 : starEach [.Name c p3] env = [(false, eval (.Name c p3) env)] := by rfl) :
    wpAny (model P w) A (eval (.Call (.Name "isinstance" p1) [.Name x p2, .Name c p3] [] p4) env) Q E s := by
  obtain ⟨inK, ns, ⟨mb, nb, hmb⟩, lim⟩ := St
  have glb : ∀ {y : Str} {v : Value} {p : Pos} {R : Value → Shared → Prop}, env.kindOf y = some .globalImplicit → mg y = none → bootBuiltins y = some v → y ≠ "__name__" → (y == ("__debug__" : Str)) = false → R v s → wpAny (model P w) A (eval (.Name y p) env) R E s :=
    fun {y v p R} k1 k2 k3 k4 k5 r => Calls.Name_function_global hk k1 (Calls.loadGlobal_builtin (by rw [hg]; exact ns) k2 (by rw [hb]; exact nb) ((hmb y k4).trans k3) r) k5
  refine wpAny_Call_Name_kw (glb hi mi PyProof.Rows.boot_isinstance (by decide) (by decide) ?_)
  refine PyProof.Rows.callWith_builtin1 ?_ he (by rw [he2]; rfl)
  rw [he, he2]
  refine Calls.spliced_cons (wpAny_Name (wpAny_loadName_local hk hx hn hm ?_) hd)
  refine Calls.spliced_cons (glb hc mc bc hcn hdc ?_)
  refine Calls.spliced_nil ?_
  obtain ⟨Pz, Z, pz, _, nl, _⟩ := q
  exact PySem.W.kia_one Z inK pz (kit_ty e) nl h
end
end Cl
namespace Cl
open PySem PySem.Spec PyProof.Rows L2
/-! ### def is_whole(thing): return isinstance(thing, int) and not isinstance(thing, bool) -/
section
variable {P : Program} {w : World} {K : PySem.W.Frag} {mg : Str → Option Value}
theorem qw_of {x qual : Str} {st : Stmt} {f : Addr} {fd : FuncData} {p1 p2 p3 p4 p5 p6 p7 p8 p9 p10 p11 : Pos} {y : Str} {k : Nat}
    (F : Fun K x qual st f fd) (S : FnScope [y] [y] (defScope st)) (hloc : (defScope st).names.lookup y = some .local)
    (hi : (defScope st).names.lookup ("isinstance" : Str) = some .globalImplicit) (hc : (defScope st).names.lookup ("int" : Str) = some .globalImplicit) (hb : (defScope st).names.lookup ("bool" : Str) = some .globalImplicit)
    (mi : mg "isinstance" = none) (mc : mg "int" = none) (mb : mg "bool" = none)
    (hbody : defBody st = [.Return (some (.BoolOp .And [.Call (.Name "isinstance" p1) [.Name y p2, .Name "int" p3] [] p4, .UnaryOp .Not (.Call (.Name "isinstance" p5) [.Name y p6, .Name "bool" p7] [] p8) p9] p10)) p11])
    (hbind : Binds K fd [y] []) (hyd : (y == ("__debug__" : Str)) = false := by decide) : QW P w K mg f := by
  refine ⟨fun A s u T b1 b2 hdep St q e1 e2 => ?_⟩
  have hb0 := hbind s [u] St.1 rfl
  obtain ⟨oc, od, kV, doc, pm, an, cdv, ct, osl, rfl, lk, hcd⟩ := F.ex
  obtain ⟨inK, ns, nb, lim⟩ := id St
  refine codeAny_call_function hdep (inK _ _ lk) rfl S.co S.gen rfl (PySem.W.codeRec_of inK hcd) (hb0 _ _ _ _ ?_)
  have kinds : ∀ z ∈ [y].zip ([u] ++ []), (defScope st).names.lookup z.1 = some .local ∨
      ((defScope st).names.lookup z.1 = some .cell ∧ ((cellsFrom (s.heap.objs.size + 1) (defScope st).names []).lookup z.1).isSome = true) := by
    intro z hz
    simp only [List.append_nil, List.zip_cons_cons, List.zip_nil_right, List.mem_singleton] at hz
    subst hz
    exact .inl hloc
  refine wpAny_newFunctionEnv_cells S.kind kinds fun env he s1 z => ?_
  subst he
  have k1 := z.toInCall.keep
  have St1 : Stands K mg s1.heap := St.keeps k1
  have q1' : KQ K s1.heap u T := q.keeps fun a o _ e => k1 a o e
  have ks1 : Keeps s s1 := z.done
  refine ⟨St1.2.2.2, codeAny_func ?_⟩
  show wpAny _ _ (execs (defBody st) _) _ _ s1
  rw [hbody]
  have hm : (bindL (newEnv (defScope st) s.heap.objs.size mainGlobals (cellsFrom (s.heap.objs.size + 1) (defScope st).names []) (qual ++ ".<locals>.") (some f) cdv none builtinsNs).kindOf ([y].zip ([u] ++ [])) fun _ => none) y = some u := by
    show (bindL (fun n => (defScope st).names.lookup n) [(y, u)] fun _ => none) y = some u
    simp [bindL, hloc]
  have isi : ∀ {E' : Value → Shared → Prop} {A' : Around} {c : Str} {tc : String} {b : Bool} {q1 q2 q3 q4 : Pos} {s2 : Shared} {Q2 : Value → Shared → Prop}, Keeps s1 s2 → (defScope st).names.lookup c = some .globalImplicit → mg c = none → bootBuiltins c = some (.type tc) → kitB T tc = some b → (c == ("__debug__" : Str)) = false → c ≠ "__name__" →
      (∀ tk, Q2 (.bool b) { s2 with toks := tk }) → wpAny (model P w) A' (eval (.Call (.Name "isinstance" q1) [.Name y q2, .Name c q3] [] q4) (newEnv (defScope st) s.heap.objs.size mainGlobals (cellsFrom (s.heap.objs.size + 1) (defScope st).names []) (qual ++ ".<locals>.") (some f) cdv none builtinsNs)) Q2 E' s2 := by
    intro E' A' c tc b q1 q2 q3 q4 s2 Q2 ks hcc hmc hbc he hd hn2 h
    obtain ⟨h2, tk2, rfl, k2⟩ := ks
    exact quiet_isi (K := K) (mg := mg) (T := T) S.kind hloc hi hcc rfl rfl (St1.keeps k2) mi hmc hbc (z.toInCall.ns.keeps k2) hm (q1'.keeps fun a o _ e => k2 a o e) he h hyd hd hn2 rfl rfl
  refine wpAny_execs_cons (wpAny_Return_some ?_)
  refine BoolOp_and (isi (GxR.keeps_refl _) hc mc PyProof.Rows.boot_int e1 (by decide) (by decide) fun tk => wpAny_truthy_bool ?_)
  cases b1 with
  | false => exact ⟨rfl, keeps_trans ks1 (GxR.keeps_tok _ _)⟩
  | true =>
    refine BoolOp_one (UnaryOp_ (isi (GxR.keeps_tok _ _) hb mb PyProof.Rows.boot_bool e2 (by decide) (by decide) fun tk2 => not_of (wpAny_truthy_bool ?_)))
    exact ⟨rfl, keeps_trans ks1 (GxR.keeps_tok _ _)⟩
end
end Cl

namespace Cl
open PySem PySem.Spec PyProof.Rows L2
open GxR (TabB TabG Tabbed GenS inv_tab sh_eta)
/-! ### all(test for x in t), t a tuple, the test asked quietly -/
def EltT (P : Program) (w : World) (K : PySem.W.Frag) (mg : Str → Option Value) (scope : Scope) (x : Str) (elt : Expr) (D : Nat) (Cp : List (Str × Addr) → Heap → Prop) (ok : Heap → Value → Bool → Prop) : Prop :=
  ∀ (cenv : Env) (A' : Around) (E' : Value → Shared → Prop) (u : Value) (b : Bool) (s₂ : Shared) (m₂ : Str → Option Value), A'.handled = none → A'.depth ≤ D → cenv.scope = scope → cenv.globals = mainGlobals → cenv.builtins = builtinsNs →
    Stands K mg s₂.heap → Cp cenv.cells s₂.heap → s₂.heap.Ns cenv.locals m₂ → m₂ x = some u → ok s₂.heap u b →
    wpAny (model P w) A' (eval elt cenv) (fun y s₃ => y = .bool b ∧ Keeps s₂ s₃) E' s₂
theorem Same.tabbed {H H' : Hp} {P : Addr} (h : TabG H P) (t : Tabbed P H H') : Same H H' := fun b o e => by
  by_cases hb : b = P
  · subst hb
    obtain ⟨ps, e1, _⟩ := h
    rw [e1] at e
    cases e
    obtain ⟨ps', e2, t2⟩ := t.1
    exact fun _ => ⟨ps', e2, t2⟩
  · rw [t.2 b hb]
    exact .of e
theorem Same.tab {H H' : Hp} {P : Addr} (s : Same H H') (h : TabG H P) : TabG H' P := by
  obtain ⟨ps, e, t⟩ := h
  obtain ⟨ps', e', t'⟩ := s P _ e t
  exact ⟨ps', e', t'⟩
def tAllT (K : PySem.W.Frag) (P : Addr) (cap : L2.St → Hp → Prop) (okV : Hp → V → Bool → Prop) (te : TE) : TE := fun σ H Q => te σ H fun v H1 => ∃ (a : Addr) (xs : List V) (bs : List Bool), v = .ref a ∧ SqT K H1 a xs ∧ bs.length = xs.length ∧
  (∀ (i : Nat) x b, xs[i]? = some x → bs[i]? = some b → okV H1 x b) ∧ cap σ H1 ∧ TabG H1 P ∧ ∀ H2, Same H1 H2 → TabG H2 P → Q (.bl (bs.all id)) H2
theorem all_range (bs : List Bool) : (List.range bs.length).all (fun j => bs.getD j false) = bs.all id := by
  rw [Bool.eq_iff_iff, List.all_eq_true, List.all_eq_true]
  constructor
  · intro h b hb
    obtain ⟨j, hj, e⟩ := List.getElem_of_mem hb
    have q := h j (List.mem_range.mpr hj)
    rw [List.getD_eq_getElem?_getD, List.getElem?_eq_getElem hj, e] at q
    exact q
  · intro h j hj
    have hj' := List.mem_range.mp hj
    rw [List.getD_eq_getElem?_getD, List.getElem?_eq_getElem hj']
    exact h _ (List.getElem_mem hj')
section
variable {X : Cx}
theorem pe_allT {c P : Addr} {elt iter : Expr} {x : Str} {px p pos gpos : Pos} {scope : Scope} {te : TE} {k : Nat} {Cp : List (Str × Addr) → Heap → Prop} {ok : Heap → Value → Bool → Prop} {cap : L2.St → Hp → Prop} {okV : Hp → V → Bool → Prop}
    (hr : Room k X.A) (hg : Gl X "all") (hm : X.mg "all" = none) (TB : TabB X.base X.mg c P) (hcode : X.env.code = .ref c) (S : GenS X.env scope x) (hi : PE X iter te)
    (hel : EltT X.prog X.w X.K X.mg scope x elt (X.A.depth + 1) Cp ok)
    (okk : ∀ h h' u b, ok h u b → (∀ a o, u = .ref a → h.get? a = some o → h'.get? a = some o) → ok h' u b) (okr : ∀ h u b a, ok h u b → u = .ref a → ∃ o, h.get? a = some o ∧ o.cls ≠ .none)
    (okI : ∀ {pins : List (Addr × Obj)} {σ : L2.St} {H : Hp} {s : Shared} {v : V} {u : Value} {b : Bool}, Inv X pins σ H s → RelV v u → okV H v b → ok s.heap u b)
    (cpI : ∀ {pins : List (Addr × Obj)} {σ : L2.St} {H : Hp} {s : Shared}, Inv X pins σ H s → cap σ H → Cp (cloFrom X.env.cells scope.names []) s.heap)
    (cpk : ∀ h h', (∀ b o, o.cls ≠ .none → h.get? b = some o → h'.get? b = some o) → Cp (cloFrom X.env.cells scope.names []) h → Cp (cloFrom X.env.cells scope.names []) h')
    (teσ : ∀ {pins : List (Addr × Obj)} {σ : L2.St} {H : Hp} {s : Shared}, True)
    (hs : ∀ v, genFold iter X.env v = pure v)
    (he : starEach [.GeneratorExp elt [⟨.Name x px, iter, [], 0⟩] scope gpos] X.env = (false, eval (.GeneratorExp elt [⟨.Name x px, iter, [], 0⟩] scope gpos) X.env) :: starEach [] X.env := by rfl) :
    PE X (.Call (.Name "all" p) [.GeneratorExp elt [⟨.Name x px, iter, [], 0⟩] scope gpos] [] pos) (tAllT X.K P cap okV te) := by
  refine ⟨fun pins s σ H Q I h => ?_⟩
  refine wpAny_Call_Name_kw (ld_blt I hg hm PyProof.Rows.boot_all ?_)
  refine PyProof.Rows.callWith_builtin1 ?_ he (by rfl)
  rw [he]
  show wpAny _ _ (spliced ((false, eval (.GeneratorExp elt [⟨.Name x px, iter, [], 0⟩] scope gpos) X.env) :: backTo pos (starEach [] X.env))) _ _ s
  refine Calls.spliced_cons ?_
  refine wpAny_GeneratorExp_walksQD hr.hd S.co (closure_ok S.free) S.cell S.dot S.loc S.kind (by have := hr.dp; omega) ?_ hs
  refine thn (hi.run pins s σ H _ I h) fun xv s1 ⟨v, H1, I1, r1, q1⟩ => ?_
  obtain ⟨a, xs, bs, rfl, hS, lbs, hok, hcap, hT, q⟩ := q1
  cases r1
  obtain ⟨ps, hP, ht⟩ := id hT
  obtain ⟨its, rv, tup, hz⟩ := I1.tuple hS
  have lx := rv.length
  refine wpAny_pyIter_tuple tup ?_
  have hPs : s1.heap.get? P = some { cls := .none, data := .fields ps } := I1.hok P _ hP
  have hPlt : P < s1.heap.objs.size := Heap.lt_size hPs
  have halt : a < s1.heap.objs.size := by obtain ⟨o, e, _⟩ := id tup; exact Heap.lt_size e
  have haP : a ≠ P := fun e => by
    obtain ⟨o, e1, e2, _⟩ := id tup
    rw [e, hPs] at e1
    cases e1
    cases e2
  generalize hito : ({ cls := .type "tuple_iterator", data := .fields #[.ref a, .int 0 0] } : Obj) = ito
  have hP2 : (s1.heap.push ito).get? P = some { cls := .none, data := .fields ps } := Heap.get?_push_of_some _ hPs
  have cd : PySem.W.CodeHd (s1.heap.push ito) c P := TB.code.keeps fun b u e => Heap.get?_push_of_some _ (I1.bk b u e)
  have lim2 : (s1.heap.push ito).NoLimit := I1.nolimit.push ito
  have sz2 : (s1.heap.push ito).objs.size = s1.heap.objs.size + 1 := Heap.size_push ..
  have cont : ∀ (code : Value) (h3 : Heap) (tk : Nat) (ps' : Array Value), Heap.ExtBut P (s1.heap.push ito) h3 → (s1.heap.push ito).objs.size ≤ h3.objs.size → h3.get? P = some { cls := .none, data := .fields ps' } → (∃ more, ps' = ps ++ more) → TriplesOk ps'.toList →
      wpAny (model X.prog X.w) X.A (builtinsFor X.env.globals X.env.builtins) (fun bi s₄ =>
        ∃ Ia fp wr n₀ Pf St₀ pz F, Value.ref s1.heap.objs.size = .ref Ia ∧ (∀ A' : Around, A'.handled = none → Walks X.prog X.w A' Ia fp wr n₀ Pf St₀) ∧ St₀ 0 s₄.heap ∧ (∀ b ∈ fp, b < s₄.heap.objs.size) ∧ s₄.heap.NoLimit ∧ cStatics ∉ wr ∧
          (∀ href : Heap, (∀ b o, s₄.heap.get? b = some o → href.get? b = some o) →
            QuietGenD X.prog X.w (genEnv scope (cloFrom X.env.cells scope.names []) s₄.heap.objs.size code bi X.env) x [] elt (List.range s₄.heap.objs.size) wr Pf pz F href (X.A.depth + 1) (X.A.units + 8)) ∧
          (∀ a h₅ tk gs, gs.bare = true → s₄.heap.objs.size < a → h₅.objs.size = a + 1 → (∀ b o, s₄.heap.get? b = some o → h₅.get? b = some o) →
            WalksS X.prog X.w X.A.in4 a (a :: s₄.heap.objs.size :: List.range s₄.heap.objs.size) (s₄.heap.objs.size :: wr) (GenOnlyQ s₄.gens.size) (passing pz n₀ 0).length
              (fun j y => ∃ i, (passing pz n₀ 0)[j]? = some i ∧ F i y) (GenAt X.prog X.w X.A.in4 a s₄.gens.size s₄.heap.objs.size (List.range s₄.heap.objs.size) wr pz n₀ F) →
            GenAt X.prog X.w X.A.in4 a s₄.gens.size s₄.heap.objs.size (List.range s₄.heap.objs.size) wr pz n₀ F 0 { s₄ with gens := s₄.gens.push gs, toks := tk, heap := h₅ } →
            wpAny (model X.prog X.w) X.A (spliced (backTo pos (starEach [] X.env))) (fun vs s2 => wpAny (model X.prog X.w) X.A (call (.builtin "all") (.ref a :: vs)) (EP X pins σ Q) X.xe s2) X.xe { s₄ with gens := s₄.gens.push gs, toks := tk, heap := h₅ })) X.xe { s1 with heap := h3, toks := tk } := by
    intro code h3 tk ps' hx hsz hP3 hmore ht3
    obtain ⟨bm, ob, e1, e2, e3, e4, e5, e6, e7, e8⟩ := TB.bm
    have keep3 : ∀ b u, b ≠ P → s1.heap.get? b = some u → h3.get? b = some u := fun b u hb e => hx b u hb (Heap.get?_push_of_some _ e)
    have hcP : cStatics ≠ P := fun e => by
      obtain ⟨_, hns, _⟩ := I1.nolimit
      obtain ⟨o', es, ep, ho, hd, _⟩ := hns
      rw [e, hPs] at ho
      cases ho
      cases hd
    have hcl : cStatics < s1.heap.objs.size := let ⟨_, hns, _⟩ := I1.nolimit; hns.lt
    have bP : ∀ b o, X.base.get? b = some o → b ≠ P := fun b o e z => by
      have := (I1.bs b o e).2
      rw [z, hP] at this
      cases this
    have stB : Stands X.K X.mg X.base := ⟨I1.mod.kin, I1.mod.glob, I1.mod.blt, I1.mod.nolimit⟩
    refine wpAny_builtinsFor (m := X.mg) (by rw [I1.ok.glob]; exact ((I1.mod.glob.keeps I1.bk).push ito).extBut hx TB.gP) e1 e2 (keep3 _ _ e4 (I1.bk _ _ e5)) e6 e7 e8 ?_
    refine ⟨s1.heap.objs.size, [s1.heap.objs.size, a], [s1.heap.objs.size], its.toArray.size, fun i v => its.toArray[i]? = some v, (fun i h => h.IsTupleIter s1.heap.objs.size a i ∧ h.IsTuple a its.toArray), (fun _ => true), (fun i y => i < its.toArray.size ∧ y = .bool (bs.getD i false)), rfl,
      fun A' hA => Walks.tuple hA _ _ (Nat.ne_of_lt halt) _, ⟨?_, ?_⟩, ?_, lim2.extBut hx hcP, ?_, ?_, ?_⟩
    · refine ⟨ito, hx _ _ (fun z => Nat.ne_of_lt hPlt z.symm) (Heap.get?_push_size _ (by rw [← hito]; rfl)), by rw [← hito], by rw [← hito]; rfl⟩
    · obtain ⟨o, g1, g2, g3⟩ := id tup
      exact ⟨o, keep3 a o haP g1, g2, g3⟩
    · intro b hb
      show b < h3.objs.size
      simp only [List.mem_cons, List.not_mem_nil, or_false] at hb
      rcases hb with z | z
      · rw [z]; exact Nat.lt_of_lt_of_le (by rw [sz2]; exact Nat.lt_succ_self _) hsz
      · rw [z]; exact Nat.lt_of_lt_of_le halt (Nat.le_trans (by rw [sz2]; exact Nat.le_succ _) hsz)
    · intro z
      rw [List.mem_singleton.mp z] at hcl
      exact Nat.lt_irrefl _ hcl
    · intro href hhref
      refine ⟨fun A' E' i v s₂ m₂ hA hD hU hPv hn hm hk => ?_, fun A' E' i v s₂ m₂ hA hD hU hPv hp hn hm hk => ?_⟩
      · simp only [List.forIn_nil]
        exact wpAny_pure ⟨rfl, GxR.keeps_refl _⟩
      · have key : ∀ b o, b ≠ P → s1.heap.get? b = some o → s₂.heap.get? b = some o := fun b o hb e =>
          hk b (List.mem_range.mpr (Heap.lt_size (keep3 b o hb e))) (fun z => by
            have l := Heap.lt_size e
            rw [List.mem_singleton.mp z] at l
            exact Nat.lt_irrefl _ l) o (hhref b o (keep3 b o hb e))
        have hi' : i < its.length := by
          have := (Array.getElem?_eq_some_iff.mp hPv).1
          simpa using this
        obtain ⟨v', ev, rel⟩ := rv.get (List.getElem?_eq_getElem (show i < xs.length by omega))
        have evv : v' = v := by
          have h1 : its[i]? = some v := by simpa using hPv
          rw [h1] at ev
          exact (Option.some.inj ev).symm
        subst evv
        have hb1 : bs[i]? = some (bs.getD i false) := by
          rw [List.getD_eq_getElem?_getD, List.getElem?_eq_getElem (show i < bs.length by omega)]
          rfl
        have o1 := okI I1 rel (hok i _ _ (List.getElem?_eq_getElem (show i < xs.length by omega)) hb1)
        have o2 := okk _ s₂.heap _ _ o1 fun a' o e g => key a' o (fun z => by
          obtain ⟨o', g1, g2⟩ := okr _ _ _ a' o1 e
          rw [z, hPs] at g1
          cases g1
          exact g2 rfl) g
        refine wpAny_mono (hel _ A' E' v' _ s₂ m₂ hA hD rfl I1.ok.glob rfl (stB.keeps fun b o e => key b o (bP b o e) (I1.bk b o e)) ?_ hn hm o2) (fun y s3 r => ⟨⟨by simpa using hi', r.1⟩, r.2⟩) fun _ _ e => e
        exact cpk s1.heap s₂.heap (fun b o hc e => key b o (fun z => by
          rw [z, hPs] at e
          cases e
          exact hc rfl) e) (cpI I1 hcap)
    · intro g h5 tk5 gs hgb hag hsz5 hk5 W5 hat
      simp only [GxR.passing_true, List.length_range] at W5
      refine Calls.spliced_nil ?_
      have W := W5.in4_1
      refine call_all_walkS (W.self 0 _ _ _ hat ⟨g, _, _, _, _, _, _, fun j => bs.getD j false, rfl, W, hat, ?_, fun s' hm => ?_⟩)
      · intro j y sj Qj Ej hy hQj
        obtain ⟨i, hij, hi2, rfl⟩ := hy
        try rw [GxR.passing_true] at hij
        obtain ⟨hj, ej⟩ := List.getElem?_eq_some_iff.mp hij
        rw [List.getElem_range] at ej
        subst ej
        exact wpAny_truthy_bool hQj
      · obtain ⟨more, em⟩ := hmore
        have nwr : ∀ b u, s1.heap.get? b = some u → b ∉ h3.objs.size :: [s1.heap.objs.size] := fun b u e hb => by
          have hl := Heap.lt_size e
          simp only [List.mem_cons, List.not_mem_nil, or_false] at hb
          rcases hb with z | z
          · rw [z] at hl
            have h9 : (h3.objs.size : Nat) < s1.heap.objs.size := hl
            omega
          · rw [z] at hl
            exact Nat.lt_irrefl _ hl
        have J := inv_tab (more := more) (h' := s'.heap) (g' := s'.gens) (d' := s'.drawn) (t' := s'.toks) I1 hP (fun b u hb e => hm.heap b u (nwr b u e) (hk5 b u (keep3 b u hb e)))
          (by rw [← em]; exact hm.heap P _ (nwr P _ hPs) (hk5 P _ hP3)) (AllBare.movedS (I1.bare.push hgb) hm)
        rw [sh_eta s1 s' hm.os] at J
        have tb : Tabbed P H1 (upd H1 P (.tbl (ps ++ more))) := ⟨⟨ps ++ more, upd_same, by rw [← em]; exact ht3⟩, fun b hb => upd_ne hb⟩
        refine ⟨.bl _, _, J, ?_, q _ (Same.tabbed hT tb) tb.1⟩
        show Value.bool _ = Value.bool _
        rw [← all_range bs, show its.toArray.size = bs.length by simp; omega]
  refine ⟨lim2, ?_⟩
  cases hf : codeAmong gpos ps.toList with
  | none =>
    refine wpAny_genexprCodeX hcode (cd.code hP2 ht) (cd.tab hP2) hf fun c' h' tk hx hge hlt hco' _ htab' _ => ?_
    obtain ⟨o1, vs, f1, tf, fl, tg, inF, tx, tt, op, _, _, _, _, _, _, _, _, _, htr, _⟩ := hco'
    exact cont _ h' tk _ hx (Nat.le_trans hge (Nat.le_of_lt hlt)) htab'.2 ⟨_, rfl⟩ htr
  | some cv =>
    refine wpAny_genexprCode_hit hcode (cd.code hP2 ht) hf ?_
    exact cont cv (s1.heap.push ito) s1.toks ps (Heap.ExtBut.refl _ _) (Nat.le_refl _) hP2 ⟨#[], by simp⟩ ht
end
end Cl

namespace Cl
open PySem PySem.Spec PyProof.Rows L2
open GxR (TabB TabG)
/-! ### a def whose code object's table grows -/
section
variable {P : Program} {w : World} {K : PySem.W.Frag} {mg : Str → Option Value} {base : Heap}
theorem okGT {x qual : Str} {st : Stmt} {f : Addr} {fd : FuncData} {N ps : List Str} {k : Nat} {sp : Sp} {c : Addr}
    (F : Fun K x qual st f fd) (hc : fd.code = .ref c) (S : FnScope N ps (defScope st))
    (len : ∀ vs H Q E, sp vs H Q E → vs.length = ps.length)
    (body : ∀ (A : Around) (outer : List Env) (s : Shared) (H : Hp) (vs : List V) (Q : VK) (E : XK),
      RG k (A.deeper (envOfC qual (defScope st) s.heap.objs.size f (.ref c))) → sp vs H Q E →
      ∃ t, PSs (cxOf CX0 P w K mg base N qual (defScope st) f (.ref c) A outer s H E).nox (defBody st) t ∧
        t { nx := fun _ H' => Q .non H', rt := Q } (start N vs) H) :
    FnG P w K mg base CX0 (k + 1) f fd ps sp := by
  obtain ⟨oc, od, kV, doc, pm, an, cdv, ct, osl, rfl, lk, hcd⟩ := F.ex
  have hc : cdv = .ref c := hc
  subst hc
  constructor
  · exact len
  intro A outer s H args us vs Q E hr e0 hb r hsp
  have nvs := len _ _ _ _ hsp
  have keepB : ∀ b o, base.get? b = some o → s.heap.get? b = some o := fun b o z => (e0.bs b o z).1
  have inK : K.In s.heap := e0.mod.kin.keeps keepB
  have nolim : s.heap.NoLimit := e0.mod.nolimit.keeps keepB
  have kinds : ∀ y ∈ ps.zip us, (defScope st).names.lookup y.1 = some .local ∨
      ((defScope st).names.lookup y.1 = some .cell ∧
        ((cellsFrom (s.heap.objs.size + 1) (defScope st).names []).lookup y.1).isSome = true) := by
    rintro ⟨n, v⟩ hy
    rcases S.par n (List.of_mem_zip hy).1 with z | z
    · exact .inl z
    · exact .inr ⟨z, PySem.W.cellsFrom_some _ _ _ (.inl z)⟩
  refine codeAny_call_function hr.room.depth (inK _ _ lk) rfl S.co S.gen rfl
    (PySem.W.codeRec_of inK hcd) (hb _ _ _ _ ?_)
  refine wpAny_newFunctionEnv_cells S.kind kinds fun env he s1 x => ?_
  subst he
  refine ⟨nolim.keeps x.toInCall.keep, codeAny_func ?_⟩
  have hr2 : RG k (A.deeper (envOfC qual (defScope st) s.heap.objs.size f (.ref c))) := ⟨hr.room.deeper _, hr.gd⟩
  obtain ⟨t, ht, hq⟩ := body A outer s H vs Q E hr2 hsp
  have I : Inv (cxOf CX0 P w K mg base N qual (defScope st) f (.ref c) A outer s H E) [] (start N vs) H s1 :=
    inv_start S hr.room.hd e0 nvs r x
  refine wpAny_mono (ht.nox.run [] s1 (start N vs) H _ I hq) (fun fl s' hs => ?_) fun _ _ z => z
  match fl, hs with
  | .ret u, ⟨v, σ', H', J, rv, q⟩ => exact ⟨v, H', J.os, J.bare, J.base, J.hok, rv, q⟩
  | .next, ⟨σ', H', J, q⟩ => exact ⟨V.non, H', J.os, J.bare, J.base, J.hok, rfl, q⟩
  | .brk, ⟨_, _, _, q⟩ => exact q.elim
  | .cont, ⟨_, _, _, q⟩ => exact q.elim
end
/-! ### the end: the law's call, some defs' tables growing -/
def TabN (mg : Str → Option Value) (h : Heap) (n : Str) : Prop := ∃ (f : Addr) (o : Obj) (fd : FuncData) (c P : Addr), mg n = some (.ref f) ∧ h.get? f = some o ∧ o.data = .func fd ∧ fd.code = .ref c ∧ PySem.W.CodeHd h c P ∧ h.TableAt c P #[]
theorem endGT {l : PySem.W.OpenLaw} {n k : Nat} {q : Program} {loose : List Str} {XP : (Str → Option Value) → Heap → Prop}
    {YP : World → Heap → Prop} {d : DefRec} {K : Params → PySem.W.Frag} {sp : PySem.W.Frag → List (Addr × Addr) → Sp} {x : Str} {ts : List Str}
    (hn : l.most = some n) (hn2 : n ≤ sizeLine) (hdf : d.params.defaults = []) (hr : RG k callerA) (hrec : (ts.all fun n => (recsOf q).any fun e => e.name == n) = true)
    (hY : ∀ (w : World) (h : Heap), YP w h → (K w.params).In h)
    (F : ∀ (w : World) (mg : Str → Option Value) (fa : Addr) (h : Heap), (K w.params).In h → h.Ns mainGlobals mg →
      mg d.name = some (.ref fa) → (∀ n ∈ ts, TabN mg h n) → ∃ (fd : FuncData) (cs : List (Addr × Addr)), (∀ p ∈ cs, PySem.W.CodeHd h p.1 p.2 ∧ h.TableAt p.1 p.2 #[] ∧ (K w.params).lookup p.2 = none) ∧ (∀ (s : Shared) (u : Value), BindsTo s fd ⟨[u], []⟩ [(x, u)]) ∧
        ∀ base : Heap, (K w.params).In base → base.Ns mainGlobals mg → (∀ p ∈ cs, TabB base mg p.1 p.2) → FnG l.prog w (K w.params) mg base CX0 k fa fd [x] (sp (K w.params) cs))
    (hsp : ∀ (w : World) (cs : List (Addr × Addr)) (H : Hp) (a : Addr) (ns : List Int), ns.length ≤ n → (∀ z ∈ ns, Builtin.Int.intBits z ≤ 1048576) →
      (∀ p ∈ cs, H p.2 = some (.tbl #[])) → SqL (K w.params) H a (ns.map V.int) → sp (K w.params) cs [.ref a] H (fun v _ => v = .bl true) E0) :
    PySem.W.WalkO q loose XP YP l.row.toRowW d [] (fun f vs => PySem.call f vs) := by
  refine Att.attach_callB hn hdf fun w s₀ s1 mg mb fa o pm cd doc a us ns G Y ho hd hcd hmg obj hints nlen bits gens => ?_
  have inK : (K w.params).In s1.heap := hY w _ Y
  have tn : ∀ n ∈ ts, TabN mg s1.heap n := fun n hn => by
    obtain ⟨dL, h1, h2⟩ := List.any_eq_true.mp (List.all_eq_true.mp hrec n hn)
    have h2 : dL.name = n := beq_iff_eq.mp h2
    obtain ⟨f, o, fd, c, P, t1, t2, t3, t4, t5, t6⟩ := G.T.tab dL h1
    exact ⟨f, o, fd, c, P, by rw [← h2]; exact t1, t2, t3, t4, .of t5 t6, t6⟩
  obtain ⟨fd, cs, hcs, bind, hF⟩ := F w mg fa _ inK G.T.g hmg tn
  have rv := vals_ints hints
  have nv : us.length = ns.length := hints.length
  obtain ⟨T, hT⟩ : ∃ T, T = cs.map (·.2) := ⟨_, rfl⟩
  have isT : ∀ b ∈ T, s1.heap.get? b = some { cls := .none, data := .fields #[] } := fun b hb => by
    rw [hT] at hb
    obtain ⟨p, hp, e⟩ := List.mem_map.mp hb
    rw [← e]
    exact (hcs p hp).2.1.2
  have memT : ∀ p ∈ cs, p.2 ∈ T := fun p hp => by rw [hT]; exact List.mem_map.mpr ⟨p, hp, rfl⟩
  have aT : a ∉ T := fun z => by
    have q := isT a z
    rw [obj] at q
    have z' : Data.seq us.toArray _ = Data.fields #[] := congrArg Obj.data (Option.some.inj q)
    cases z'
  have small : ns.length ≤ sizeLine := Nat.le_trans nlen hn2
  have go : ∀ H : Hp, (∀ b ∈ T, H b = some (.tbl #[])) → (∀ b, b ∉ T → H b = none ∨ ∃ ob xs, H b = some (.frz ob (.lst xs))) → SqL (K w.params) H a (ns.map V.int) → HOk l.prog w H s1.heap → (∀ b, H b ≠ none → b = a ∨ b ∈ T) →
      (H a ≠ none → (K w.params).lookup a = none) → codeAny (model l.prog w) callerA (.call (.ref fa) ⟨[.ref a], []⟩)
        (fun r s' => r = .ok (.ret (.bool true)) ∧ OldK s1.heap s'.heap ∧ s'.os = s1.os ∧ AllBare s'.gens) s1 := by
    intro H hTb only hS hok atA offK
    have left : ∀ {b : Addr} {o : Obj}, s1.heap.get? b = some o → H b = none → (hidT s1.heap H).get? b = some o :=
      fun e z => hidT_get e z
    -- what is no list and no empty table is not tracked
    have nothing : ∀ {b : Addr} {o : Obj}, s1.heap.get? b = some o → (∀ vs n, o.data ≠ .seq vs n) → o.data ≠ .fields #[] → H b = none := fun {b o} e h1 h2 => by
      cases z : H b with
      | none => rfl
      | some u =>
        rcases atA b (by rw [z]; intro y; cases y) with y | y
        · rw [y, obj] at e
          cases e
          exact absurd rfl (h1 _ _)
        · rw [isT b y] at e
          cases e
          exact absurd rfl h2
    have spaces : ∀ {b : Addr} {m : Str → Option Value}, s1.heap.Ns b m → (hidT s1.heap H).Ns b m :=
      fun {b m} ⟨o, es, ep, e, z, r⟩ => ⟨o, es, ep, left e (nothing e (fun vs n y => by rw [z] at y; cases y) (fun y => by rw [z] at y; cases y)), z, r⟩
    have inB : (K w.params).In (hidT s1.heap H) := fun b o e => left (inK b o e) (by
      cases z : H b with
      | none => rfl
      | some u =>
        rcases atA b (by rw [z]; intro y; cases y) with y | y
        · subst y
          rw [offK (by rw [z]; intro y; cases y)] at e
          cases e
        · rw [hT] at y
          obtain ⟨p, hp, ep⟩ := List.mem_map.mp y
          rw [← ep, (hcs p hp).2.2] at e
          cases e)
    have md : Mod (K w.params) mg (hidT s1.heap H) := by
      obtain ⟨mc, c1, c2⟩ := G.T.nolimit
      exact ⟨inB, spaces G.T.g, ⟨mb, spaces G.T.b, G.T.builtins⟩, ⟨mc, spaces c1, c2⟩⟩
    have TB : ∀ p ∈ cs, TabB (hidT s1.heap H) mg p.1 p.2 := fun p hp => by
      have hTp := isT _ (memT p hp)
      refine ⟨?_, ?_, fun z => ?_⟩
      · obtain ⟨o, us', file, tf, flags, tg, inF, text, tt, e1, r1, r2, r3, r⟩ := (hcs p hp).1
        refine ⟨o, us', file, tf, flags, tg, inF, text, tt, left e1 (nothing e1 (fun vs n z => ?_) fun z => ?_), r1, r2, r3, r⟩
        · rw [r2] at z
          cases z
        · rw [r2] at z
          cases z
          simp at r3
      · obtain ⟨bm, ob, b1, b2, b3, b4, b5, b6⟩ := G.T.bmain
        have nG : bm ≠ mainGlobals := fun y => by
          obtain ⟨o, es, ep, e, z, _⟩ := G.T.g
          rw [y, e] at b3
          cases b3
          rw [z] at b6
          cases b6
        have nP : bm ≠ p.2 := fun y => by
          rw [y, hTp] at b3
          cases b3
          cases b6
        refine ⟨bm, ob, b1, b2, nG, nP, left b3 (nothing b3 (fun vs n z => ?_) fun z => ?_), b4, b5, b6⟩
        · rw [b6] at z
          cases z
        · rw [b6] at z
          cases z
      · obtain ⟨o, es, ep, e, y, _⟩ := G.T.g
        rw [z, hTp] at e
        cases e
        cases y
    have e0 : Env0 l.prog w (K w.params) mg (hidT s1.heap H) callerA [] s1 H :=
      ⟨rfl, md, fun b o e => of_hidT e, Nat.le_of_eq (hidT_size _ _), trivial, fun b z => (nomatch z), hok, .of_eq gens⟩
    have run := (hF _ inB (spaces G.T.g) TB).run callerA [] s1 H ⟨[.ref a], []⟩ [.ref a] [.ref a] _ _ hr e0
      (bind s1 (.ref a)) (.cons rfl .nil) (hsp w cs H a ns nlen bits (fun p hp => hTb _ (memT p hp)) hS)
    refine codeAny_mono run fun res s' h => ?_
    match res, h with
    | .error e, h => exact h.elim
    | .ok .next, h => exact h.elim
    | .ok .brk, h => exact h.elim
    | .ok .cont, h => exact h.elim
    | .ok (.ret u), ⟨v, H', os, bare, un, hok', r', q⟩ =>
      have q' : v = .bl true := q
      subst q'
      have r2 : u = Value.bool true := r'
      subst r2
      have stays : ∀ b o, b ∉ T → s1.heap.get? b = some o → s'.heap.get? b = some o := fun b o hb e => by
        cases z : H b with
        | none => exact un.keep b o e z (fun y => (nomatch y)) (fun y => (nomatch y))
        | some u =>
          rcases only b hb with y | ⟨ob, xs, y⟩
          · rw [z] at y
            cases y
          · obtain ⟨e1, _⟩ := hok b _ y
            obtain ⟨e2, _⟩ := hok' b _ (un.frzs b ob _ y)
            rw [e] at e1
            cases e1
            exact e2
      have grows : ∀ b ∈ T, ∃ more : Array Value, s'.heap.get? b = some { cls := .none, data := .fields (#[] ++ more) } := fun b hb => by
        obtain ⟨more, z⟩ := un.tbls b #[] (hTb b hb)
        exact ⟨more, hok' b _ z⟩
      refine ⟨rfl, ⟨fun b o e => ?_, fun b o e => ?_⟩, os, bare⟩
      · by_cases hb : b ∈ T
        · obtain ⟨more, hm⟩ := grows b hb
          have hb2 := hb
          rw [hT] at hb2
          obtain ⟨p, hp, ep⟩ := List.mem_map.mp hb2
          rw [isT b hb] at e
          cases e
          exact .inr (.inl ⟨by rw [← ep]; exact (hcs p hp).2.1.isCodeTable, rfl, #[], more, rfl, hm⟩)
        · exact .inl (stays b o hb e)
      · by_cases hb : b ∈ T
        · obtain ⟨more, hm⟩ := grows b hb
          exact ⟨_, hm⟩
        · exact ⟨o, stays b o hb e⟩
  let Hf : Option HO → Hp := fun u b => if b ∈ T then some (.tbl #[]) else if b = a then u else none
  have hf : ∀ u b, b ∈ T → Hf u b = some (.tbl #[]) := fun u b hb => if_pos hb
  have hf2 : ∀ u b, b ∉ T → b ≠ a → Hf u b = none := fun u b hb hn => (if_neg hb).trans (if_neg hn)
  have hf3 : ∀ u, Hf u a = u := fun u => (if_neg aT).trans (if_pos rfl)
  cases hk : (K w.params).lookup a with
  | some o =>
    have e := inK a o hk
    rw [obj] at e
    cases e
    refine go (Hf none) (hf none) (fun b hb => ?_) (.inr ⟨_, us.toArray, _, hk, rfl, rfl, rfl, ?_, by simpa using rv⟩)
      (fun b u z => ?_) (fun b z => ?_) fun z => absurd (hf3 none) z
    · by_cases hn : b = a
      · rw [hn]; exact .inl (hf3 none)
      · exact .inl (hf2 none b hb hn)
    · rw [List.size_toArray, nv]
      exact small
    · by_cases hb : b ∈ T
      · rw [hf none b hb] at z
        cases z
        exact isT b hb
      · by_cases hn : b = a
        · rw [hn, hf3] at z; cases z
        · rw [hf2 none b hb hn] at z; cases z
    · by_cases hb : b ∈ T
      · exact .inr hb
      · by_cases hn : b = a
        · exact .inl hn
        · exact absurd (hf2 none b hb hn) z
  | none =>
    let ob : Obj := { cls := .type "list", data := .seq us.toArray }
    refine go (Hf (some (.frz ob (.lst (ns.map V.int))))) (hf _) (fun b hb => ?_) (.inl (.inr ⟨ob, hf3 _⟩)) (fun b u z => ?_) (fun b z => ?_) fun _ => hk
    · by_cases hn : b = a
      · rw [hn]; exact .inr ⟨_, _, hf3 _⟩
      · exact .inl (hf2 _ b hb hn)
    · by_cases hb : b ∈ T
      · rw [hf _ b hb] at z
        cases z
        exact isT b hb
      · by_cases hn : b = a
        · rw [hn, hf3] at z
          cases z
          rw [hn]
          exact ⟨obj, by rw [List.length_map]; exact small, us, _, rv, obj⟩
        · rw [hf2 _ b hb hn] at z; cases z
    · by_cases hb : b ∈ T
      · exact .inr hb
      · by_cases hn : b = a
        · exact .inl hn
        · exact absurd (hf2 _ b hb hn) z
end Cl

namespace Cl
open PySem PySem.Spec PyProof.Rows L2
open GxR (TabB TabG Tabbed GenS)
/-! ### all(is_whole(part) for part in thing) -/
/-- a tuple of these parts, or another thing -/
def Th (K : PySem.W.Frag) (H : Hp) (v : V) : Option (List V) → Prop
  | none => ∃ T, Kd K H v T ∧ T ≠ "tuple"
  | some xs => ∃ a, v = .ref a ∧ SqT K H a xs ∧ ∀ x ∈ xs, ∃ T, Kd K H x T
theorem Kd.same {K : PySem.W.Frag} {H H' : Hp} {v : V} {T : String} (h : Kd K H v T) (s : Same H H') : Kd K H' v T := by
  cases h with
  | non => exact .non
  | bl b => exact .bl b
  | int i => exact .int i
  | str x => exact .str x
  | lst h => exact .lst (by
      rcases h with (h | ⟨o, h⟩) | h
      · exact .inl (.inl (s _ _ h))
      · exact .inl (.inr ⟨o, s _ _ h⟩)
      · exact .inr h)
  | tup h => exact .tup (seT s h)
  | dct h => exact .dct (s _ _ h)
theorem Th.same {K : PySem.W.Frag} {H H' : Hp} {v : V} {o : Option (List V)} (h : Th K H v o) (s : Same H H') : Th K H' v o := by
  cases o with
  | none => obtain ⟨T, h, n⟩ := h; exact ⟨T, h.same s, n⟩
  | some xs => obtain ⟨a, e, h, p⟩ := h; exact ⟨a, e, seT s h, fun x hx => let ⟨T, q⟩ := p x hx; ⟨T, q.same s⟩⟩
def wholes : Option (List V) → Int → Bool
  | none, _ => false
  | some xs, m => decide ((xs.length : Int) = m) && xs.all isI
def spAre (K : PySem.W.Frag) (P : Addr) : Sp := fun vs H Q _ => ∃ v m o, vs = [v, .int m] ∧ TabG H P ∧ Th K H v o ∧ ∀ H', Same H H' → Q (.bl (wholes o m)) H'
/-- is_whole(u), told quietly -/
def okQ (K : PySem.W.Frag) (h : Heap) (u : Value) (b : Bool) : Prop := ∃ T b1 b2, KQ K h u T ∧ kitB T "int" = some b1 ∧ kitB T "bool" = some b2 ∧ b = (b1 && !b2)
section
variable {P : Program} {w : World} {K : PySem.W.Frag} {mg : Str → Option Value}
theorem elt_qw {fn x : Str} {f : Addr} {p1 p2 p3 : Pos} {scope : Scope} {D : Nat} {Cp : List (Str × Addr) → Heap → Prop} (W : QW P w K mg f) (hD : D < recursionLimit) (hf : mg fn = some (.ref f)) (hkf : PySem.W.keepIn K (.ref f) = true)
    (hk : scope.kind = .function) (hl : scope.names.lookup x = some .local) (hg : scope.names.lookup fn = some .globalImplicit) (hd : (x == ("__debug__" : Str)) = false := by decide) (hdf : (fn == ("__debug__" : Str)) = false := by decide) :
    EltT P w K mg scope x (.Call (.Name fn p1) [.Name x p2] [] p3) D Cp (okQ K) := by
  intro cenv A' E' u b s m hA hdep hs hglo hblt St hcp hn hm ok
  obtain ⟨T, b1, b2, q, e1, e2, rfl⟩ := ok
  refine wpAny_Call_Name_kw (Calls.Name_function_global (by rw [hs]; exact hk) (show cenv.scope.names.lookup fn = some .globalImplicit by rw [hs]; exact hg) (Calls.loadGlobal_global (by rw [hglo]; exact St.2.1) hf ?_) hdf)
  refine PySem.W.callWith_K (h₀ := s.heap) (first := []) St.1 hkf ?_
  show wpAny _ _ (spliced [(false, eval (.Name x p2) cenv)]) _ _ s
  refine Calls.spliced_cons (wpAny_Name (wpAny_loadName_local (by rw [hs]; exact hk) (show cenv.scope.names.lookup x = some .local by rw [hs]; exact hl) hn hm ?_) hd)
  refine Calls.spliced_nil ⟨St.1, wpAny_call (codeAny_mono (W.run A' s u T b1 b2 (by omega) St q e1 e2) fun res s' hq => ?_)⟩
  obtain ⟨rfl, k⟩ := hq
  exact ⟨rfl, k⟩
theorem okQ.keeps {h h' : Heap} {u : Value} {b : Bool} (q : okQ K h u b) (k : ∀ a o, u = .ref a → h.get? a = some o → h'.get? a = some o) : okQ K h' u b := by
  obtain ⟨T, b1, b2, q, e⟩ := q
  exact ⟨T, b1, b2, q.keeps k, e⟩
theorem okQ.cls {h : Heap} {u : Value} {b : Bool} {a : Addr} (q : okQ K h u b) (e : u = .ref a) : ∃ o, h.get? a = some o ∧ o.cls ≠ .none := by
  obtain ⟨T, b1, b2, q, _⟩ := q
  obtain ⟨_, _, _, _, _, c⟩ := q
  obtain ⟨o, g, w⟩ := c a e
  exact ⟨o, g, by rw [w]; exact fun z => nomatch z⟩
theorem okQ.of {X : Cx} {pins : List (Addr × Obj)} {σ : L2.St} {H : Hp} {s : Shared} {v : V} {T : String} {u : Value} (I : Inv X pins σ H s) (h : Kd X.K H v T) (r : RelV v u) : okQ X.K s.heap u (isI v) := by
  refine ⟨T, _, _, h.kq I r, h.int?, h.bool?, ?_⟩
  cases v <;> first | rfl | (rename_i b; cases b <;> rfl)
end
end Cl
namespace Cl
open PySem PySem.Spec PyProof.Rows L2
open GxR (TabB TabG Tabbed GenS)
section
variable {X : Cx}
theorem pe_allW {c P f : Addr} {iter : Expr} {fn x : Str} {px p pos gpos p1 p2 p3 : Pos} {scope : Scope} {te : TE} {k : Nat}
    (hr : Room k X.A) (hD : X.A.depth + 1 < recursionLimit) (hg : Gl X "all") (hm : X.mg "all" = none) (TB : TabB X.base X.mg c P) (hcode : X.env.code = .ref c) (W : QW X.prog X.w X.K X.mg f) (hf : X.mg fn = some (.ref f)) (hkf : PySem.W.keepIn X.K (.ref f) = true)
    (hi : PE X iter te) (S : GenS X.env scope x) (hgf : scope.names.lookup fn = some .globalImplicit) (hs : ∀ v, genFold iter X.env v = pure v := by intro _; rfl)
    (hd : (x == ("__debug__" : Str)) = false := by decide) (hdf : (fn == ("__debug__" : Str)) = false := by decide)
    (he : starEach [.GeneratorExp (.Call (.Name fn p1) [.Name x p2] [] p3) [⟨.Name x px, iter, [], 0⟩] scope gpos] X.env = (false, eval (.GeneratorExp (.Call (.Name fn p1) [.Name x p2] [] p3) [⟨.Name x px, iter, [], 0⟩] scope gpos) X.env) :: starEach [] X.env := by rfl) :
    PE X (.Call (.Name "all" p) [.GeneratorExp (.Call (.Name fn p1) [.Name x p2] [] p3) [⟨.Name x px, iter, [], 0⟩] scope gpos] [] pos) (tAllT X.K P (fun _ _ => True) (fun H v b => ∃ T, Kd X.K H v T ∧ b = isI v) te) :=
  pe_allT (Cp := fun _ _ => True) (ok := okQ X.K) hr hg hm TB hcode S hi (elt_qw W hD hf hkf S.kind S.loc hgf hd hdf) (fun _ _ _ _ q k => q.keeps k) (fun _ _ _ _ q e => q.cls e)
    (fun I r ⟨T, h, e⟩ => by rw [e]; exact .of I h r) (fun _ _ => trivial) (fun _ _ _ q => q) trivial hs he
end
end Cl
namespace Cl
open PySem PySem.Spec PyProof.Rows L2
open GxR (TabB TabG Tabbed GenS)
theorem roomD {k : Nat} {A : Around} (r : Room k A) : A.depth + 1 < recursionLimit := by have := r.dp; omega
theorem genS {env : Env} {scope : Scope} {x : Str} (h1 : scope.kind = .function) (h2 : scope.isCoroutine = false) (h3 : ∀ y ∈ scope.names, y.2 ≠ .cell ∧ y.2 ≠ .free) (h4 : scope.names.lookup (".0" : Str) = some NameKind.local) (h5 : scope.names.lookup x = some .local) : GenS env scope x :=
  ⟨h1, h2, fun y h => (h3 y h).1, h4, h5, fun y h e => absurd e (h3 y h).2⟩
end Cl

namespace Cl
open PySem PySem.Spec PyProof.Rows L2
/-! ### pairs of whole numbers -/
def pd (p : Int × Int) : PyData := .tuple [.int p.1, .int p.2]
def At2 (K : PySem.W.Frag) (H : Hp) (v : V) (p : Int × Int) : Prop := ∃ a, v = .ref a ∧ SqT K H a [.int p.1, .int p.2]
def llt (p q : Int × Int) : Bool := decide (p.1 < q.1 ∨ (p.1 = q.1 ∧ p.2 < q.2))
def mn (p q : Int × Int) : Int × Int := if llt q p then q else p
def mx (p q : Int × Int) : Int × Int := if llt p q then q else p
theorem At2.dp {K : PySem.W.Frag} {H : Hp} {v : V} {p : Int × Int} (h : At2 K H v p) : Dp K H v (pd p) := by
  obtain ⟨a, rfl, h⟩ := h
  exact .tup h (.cons (.int _) (.cons (.int _) .nil))
theorem At2.same {K : PySem.W.Frag} {H H' : Hp} {v : V} {p : Int × Int} (h : At2 K H v p) (s : Same H H') : At2 K H' v p := by
  obtain ⟨a, rfl, h⟩ := h
  exact ⟨a, rfl, seT s h⟩
theorem lt_pd (p q : Int × Int) : PySem.W.dataLt (pd p) (pd q) = llt p q := by
  obtain ⟨a, b⟩ := p
  obtain ⟨c, d⟩ := q
  have e1 : PySem.W.keyToks (pd (a, b)) = [.inl 1, .inl a, .inl 1, .inl b, .inl 0] := by simp [pd, PySem.W.keyToks, PySem.W.keyToksAll]
  have e2 : PySem.W.keyToks (pd (c, d)) = [.inl 1, .inl c, .inl 1, .inl d, .inl 0] := by simp [pd, PySem.W.keyToks, PySem.W.keyToksAll]
  unfold PySem.W.dataLt llt
  rw [e1, e2, lex_self (O := itemOrd)]
  by_cases h : a = c
  · subst h
    rw [lex_self (O := itemOrd), lex_self (O := itemOrd)]
    by_cases h2 : b = d
    · subst h2
      rw [lex_self (O := itemOrd), lex_self (O := itemOrd)]
      simp
      rfl
    · rw [lex_diff (O := itemOrd) (by simpa using h2)]
      show decide (b < d) = _
      simp
  · rw [lex_diff (O := itemOrd) (by simpa using h)]
    show decide (a < c) = _
    simp [h]
theorem alike_pd (p q : Int × Int) : PySem.W.alike (pd p) (pd q) = true := rfl
theorem pd_inj {p q : Int × Int} (h : pd p = pd q) : p = q := by
  unfold pd at h
  injection h with h
  injection h with h1 h2
  injection h1 with h1
  injection h2 with h2 _
  injection h2 with h2
  exact Prod.ext h1 h2
section
variable {X : Cx}
def rCmp2 (K : PySem.W.Frag) (f : Int × Int → Int × Int → Bool) : R2 := fun x y H Q => ∃ p q, At2 K H x p ∧ At2 K H y q ∧ Q (.bl (f p q)) H
theorem op_le2 (hu : X.A.units + 64 < cLine) : OpR X (compareOp .LtE) (rCmp2 X.K fun p q => !llt q p) := by
  intro pins s σ H x y v u Q I rx ry ⟨p, q, hp, hq, h⟩
  obtain ⟨as, r1⟩ := Dp.reads I _ x v hp.dp rx
  obtain ⟨bs, r2⟩ := Dp.reads I _ y u hq.dp ry
  exact PySem.W.le_data r1 r2 (alike_pd p q) (fun z => nomatch z) (by show X.A.units + min 1 1 < cLine; omega) ⟨.bl _, H, I, rfl, by rw [lt_pd]; exact h⟩
theorem op_gt2 (hu : X.A.units + 64 < cLine) : OpR X (compareOp .Gt) (rCmp2 X.K fun p q => llt q p) := by
  intro pins s σ H x y v u Q I rx ry ⟨p, q, hp, hq, h⟩
  obtain ⟨as, r1⟩ := Dp.reads I _ x v hp.dp rx
  obtain ⟨bs, r2⟩ := Dp.reads I _ y u hq.dp ry
  exact PySem.W.gt_data r1 r2 (alike_pd p q) (fun z => nomatch z) (by show X.A.units + min 1 1 < cLine; omega) ⟨.bl _, H, I, rfl, by rw [lt_pd]; exact h⟩

/-- min, max of a tuple of two pairs: the pair itself -/
def rBest1 (K : PySem.W.Frag) (f : Int × Int → Int × Int → Int × Int) : List V → Hp → VK → Prop := fun xs H Q =>
  ∃ a u v p q, xs = [.ref a] ∧ SqT K H a [u, v] ∧ At2 K H u p ∧ At2 K H v q ∧ ∀ w, (w = u ∨ w = v) → At2 K H w (f p q) → Q w H
def rBest2 (K : PySem.W.Frag) (f : Int × Int → Int × Int → Int × Int) : List V → Hp → VK → Prop := fun xs H Q =>
  ∃ u v p q, xs = [u, v] ∧ At2 K H u p ∧ At2 K H v q ∧ ∀ w, (w = u ∨ w = v) → At2 K H w (f p q) → Q w H
theorem pick2 {pins : List (Addr × Obj)} {σ : L2.St} {H : Hp} {s : Shared} {h' : Heap} {tk : Nat} {u v : V} {u0 v0 w0 : Value} {p q r : Int × Int} {bs : List Addr} {Q : VK} {i : Nat}
    (I : Inv X pins σ H s) (hk : ∀ b o, s.heap.get? b = some o → h'.get? b = some o) (ru : RelV u u0) (rv : RelV v v0) (hu : At2 X.K H u p) (hv : At2 X.K H v q)
    (e : #[u0, v0][i]? = some w0) (rd : Reads h' w0 (pd r) bs) (h : ∀ w, (w = u ∨ w = v) → At2 X.K H w r → Q w H) :
    EP X pins σ Q w0 { s with heap := h', toks := tk } := by
  have J : Inv X pins σ H { s with heap := h', toks := tk } := I.kept hk
  match i, e with
  | 0, e =>
    cases e
    obtain ⟨as, r1⟩ := Dp.reads J _ u u0 hu.dp ru
    have e2 := pd_inj (rd.unique _ _ r1).1
    subst e2
    exact ⟨u, H, J, ru, h u (.inl rfl) hu⟩
  | 1, e =>
    cases e
    obtain ⟨as, r1⟩ := Dp.reads J _ v v0 hv.dp rv
    have e2 := pd_inj (rd.unique _ _ r1).1
    subst e2
    exact ⟨v, H, J, rv, h v (.inr rfl) hv⟩
  | i + 2, e => exact absurd e (by simp)
theorem all_alike (p q : Int × Int) : PySem.W.AlikeAll [pd p, pd q] := by
  constructor
  · intro x hx y hy
    simp only [List.mem_cons, List.not_mem_nil, or_false] at hx hy
    rcases hx with rfl | rfl <;> rcases hy with rfl | rfl <;> rfl
  · intro x hx
    simp only [List.mem_cons, List.not_mem_nil, or_false] at hx
    rcases hx with rfl | rfl <;> exact fun z => nomatch z
theorem best_mn (p q : Int × Int) : PySem.W.minD (pd p) [pd q] = pd (mn p q) := by
  unfold PySem.W.minD mn
  simp only [List.foldl, lt_pd]
  split <;> rfl
theorem best_mx (p q : Int × Int) : PySem.W.maxD (pd p) [pd q] = pd (mx p q) := by
  unfold PySem.W.maxD mx
  simp only [List.foldl, lt_pd]
  split <;> rfl
theorem cr_min1 (hc : X.calm = true) (hu : X.A.units + 64 < cLine) : CallR X (.builtin "min") (rBest1 X.K mn) := by
  intro pins s σ H xs us Q I r ⟨a, u, v, p, q, e, hS, hp, hq, h⟩
  subst e
  rw [Vals.ref1 r]
  obtain ⟨its, rv, ht, hz⟩ := I.tuple hS
  obtain ⟨u0, v0, rfl, r1, r2⟩ := vals2 rv
  obtain ⟨as, rd1⟩ := Dp.reads I _ u u0 hp.dp r1
  obtain ⟨bs, rd2⟩ := Dp.reads I _ v v0 hq.dp r2
  refine PySem.W.min_tuple_data (x := pd p) (xs := [pd q]) (I.ok.hd hc) ht (.cons rd1 (.cons rd2 .nil)) (all_alike p q) (by show X.A.units + 1 + max 1 (max 1 0) < cLine; omega) fun i w h' tk cs hi rd hk => ?_
  rw [best_mn] at rd
  exact pick2 I hk r1 r2 hp hq hi rd h
theorem cr_max1 (hc : X.calm = true) (hu : X.A.units + 64 < cLine) : CallR X (.builtin "max") (rBest1 X.K mx) := by
  intro pins s σ H xs us Q I r ⟨a, u, v, p, q, e, hS, hp, hq, h⟩
  subst e
  rw [Vals.ref1 r]
  obtain ⟨its, rv, ht, hz⟩ := I.tuple hS
  obtain ⟨u0, v0, rfl, r1, r2⟩ := vals2 rv
  obtain ⟨as, rd1⟩ := Dp.reads I _ u u0 hp.dp r1
  obtain ⟨bs, rd2⟩ := Dp.reads I _ v v0 hq.dp r2
  refine PySem.W.max_tuple_data (x := pd p) (xs := [pd q]) (I.ok.hd hc) ht (.cons rd1 (.cons rd2 .nil)) (all_alike p q) (by show X.A.units + 1 + max 1 (max 1 0) < cLine; omega) fun i w h' tk cs hi rd hk => ?_
  rw [best_mx] at rd
  exact pick2 I hk r1 r2 hp hq hi rd h
/-- max(u, v), min(u, v) of two pairs -/
theorem cr_max2 (hc : X.calm = true) (hu : X.A.units + 64 < cLine) : CallR X (.builtin "max") (rBest2 X.K mx) := by
  intro pins s σ H xs us Q I r ⟨u, v, p, q, e, hp, hq, h⟩
  subst e
  obtain ⟨u0, v0, rfl, r1, r2⟩ := vals2 r
  have nm : (toString "max" ++ toString ".loop" : String) = "max.loop" := by decide
  have bp : Builtin.Builtins.bindParams "max" ["key", "default"] 0 ⟨[], []⟩ = pure [none, none] := rfl
  refine call_function_tree F.kind_max F.plain_max F.entry_max (F.args_max2 _ _) ?_
  show wpAny _ X.A.in1 (Builtin.Builtins.bindParams "max" ["key", "default"] 0 ⟨[], []⟩ >>= _) _ _ s
  refine wpAny_bind (wpAny_of_eq bp ?_)
  show wpAny _ X.A.in1 (newTuple [u0, v0] >>= _) _ _ s
  refine wpAny_bind (wpAny_newObj_type ?_)
  have I1 : Inv X pins σ H { s with heap := s.heap.push { cls := .type "tuple", data := .seq #[u0, v0] } } :=
    I.kept (t' := s.toks) fun b ob z => Heap.get?_push_of_some _ z
  obtain ⟨as, rd1⟩ := Dp.reads I1 _ u u0 hp.dp r1
  obtain ⟨bs, rd2⟩ := Dp.reads I1 _ v v0 hq.dp r2
  have rds : ReadsAll (s.heap.push { cls := .type "tuple", data := .seq #[u0, v0] }) [u0, v0] [pd p, pd q] _ := .cons rd1 (.cons rd2 .nil)
  have cm := PySem.W.cmpIn_gt (prog := X.prog) (w := X.w) (A := X.A.in1) (s := { s with heap := s.heap.push { cls := .type "tuple", data := .seq #[u0, v0] } }) (vs := #[u0, v0]) rds (all_alike p q)
    (by show X.A.units + 1 + max 1 (max 1 0) < cLine; omega)
  refine wpAny_bind (wpAny_mono (PySem.W.iter_tupleW (A := X.A.in1) (vs := #[u0, v0]) (I.ok.hd hc) ⟨_, Heap.get?_push_size _ rfl, rfl, _, rfl⟩ (Q := fun it s2 => ∃ I' fp wr, ∃ G : Array GenState → Array GenState → Prop, ∃ St : Nat → Shared → Prop, it = .ref I' ∧
    WalksS X.prog X.w X.A.in1 I' fp wr G 2 (fun i v => #[u0, v0][i]? = some v) St ∧ St 0 s2 ∧ (∀ b ∈ fp, b < s2.heap.objs.size) ∧ (∀ b o, (s.heap.push { cls := .type "tuple", data := .seq #[u0, v0] }).get? b = some o → b ∉ wr) ∧
    (∀ b o, (s.heap.push { cls := .type "tuple", data := .seq #[u0, v0] }).get? b = some o → s2.heap.get? b = some o) ∧ s2.os = s.os ∧ s2.gens = s.gens ∧ G = (fun a b => b = a) ∧ s2.drawn = s.drawn) fun s2 e2 W st hfp hw hk => ?_) (fun it s2 hh => ?_) fun _ _ z => z)
  · exact ⟨_, _, _, _, _, rfl, W, st, hfp, hw, hk, by rw [e2], by rw [e2], rfl, by rw [e2]⟩
  · obtain ⟨I', fp, wr, G, St, rfl, W, hst, hfp, hw, hkeep, eo, eg, hG, ed⟩ := hh
    refine wpAny_bind (wpAny_newObj_type ?_)
    have hSf : s2.heap.objs.size ∉ fp := fun hm => Nat.lt_irrefl _ (hfp _ hm)
    rw [nm]
    refine wpAny_pure ⟨plainId_quiet F.plain_max_loop _, codeAny_max_loop_firstH W _ hw _ cm s2.heap.objs.size hSf (fresh_in hkeep) _ (by decide)
      (fun b o e => Heap.get?_push_of_some _ (hkeep b o e)) (W.frame 0 s2 _ s2.toks hst (Nat.le_refl _) fun b _ o e => Heap.get?_push_of_some _ e) (Heap.get?_push_size _ rfl) fun v' s' hP hm => ?_⟩
    have m := Moved.drop_new (tk := s2.toks) hm (Nat.le_refl _)
    have eb : argBest (fun i j => PySem.W.dataLt ([pd p, pd q].getD j PyData.none) ([pd p, pd q].getD i PyData.none)) (2 - 1) = if llt p q = true then 1 else 0 := by
      show (if PySem.W.dataLt (pd p) (pd q) = true then 1 else 0) = _
      rw [lt_pd]
    rw [eb] at hP
    have hs' : s' = { s with heap := s'.heap, toks := s'.toks } := by
      obtain ⟨hp', g', d', tk', os'⟩ := s'
      have h1 := m.gens
      rw [hG] at h1
      have h1 : g' = s.gens := h1.trans eg
      have h2 : d' = s.drawn := m.drawn.trans ed
      have h3 : os' = s.os := m.os.trans eo
      subst h1 h2 h3
      rfl
    have J : Inv X pins σ H { s with heap := s'.heap, toks := s'.toks } := I.kept fun b o z => by
      have z1 := Heap.get?_push_of_some { cls := .type "tuple", data := .seq #[u0, v0] } z
      exact m.heap b o (hw _ _ z1) (hkeep _ _ z1)
    rw [hs']
    cases hl : llt p q with
    | true =>
      rw [hl] at hP
      cases hP
      have e3 : mx p q = q := if_pos hl
      exact ⟨v, H, J, r2, h v (.inr rfl) (by rw [e3]; exact hq)⟩
    | false =>
      rw [hl] at hP
      cases hP
      have e3 : mx p q = p := if_neg (by rw [hl]; decide)
      exact ⟨u, H, J, r1, h u (.inl rfl) (by rw [e3]; exact hp)⟩
/-- min(u, v) of two pairs -/
theorem cr_min2 (hc : X.calm = true) (hu : X.A.units + 64 < cLine) : CallR X (.builtin "min") (rBest2 X.K mn) := by
  intro pins s σ H xs us Q I r ⟨u, v, p, q, e, hp, hq, h⟩
  subst e
  obtain ⟨u0, v0, rfl, r1, r2⟩ := vals2 r
  have nm : (toString "min" ++ toString ".loop" : String) = "min.loop" := by decide
  have bp : Builtin.Builtins.bindParams "min" ["key", "default"] 0 ⟨[], []⟩ = pure [none, none] := rfl
  refine call_function_tree F.kind_min F.plain_min F.entry_min (F.args_min2 _ _) ?_
  show wpAny _ X.A.in1 (Builtin.Builtins.bindParams "min" ["key", "default"] 0 ⟨[], []⟩ >>= _) _ _ s
  refine wpAny_bind (wpAny_of_eq bp ?_)
  show wpAny _ X.A.in1 (newTuple [u0, v0] >>= _) _ _ s
  refine wpAny_bind (wpAny_newObj_type ?_)
  have I1 : Inv X pins σ H { s with heap := s.heap.push { cls := .type "tuple", data := .seq #[u0, v0] } } :=
    I.kept (t' := s.toks) fun b ob z => Heap.get?_push_of_some _ z
  obtain ⟨as, rd1⟩ := Dp.reads I1 _ u u0 hp.dp r1
  obtain ⟨bs, rd2⟩ := Dp.reads I1 _ v v0 hq.dp r2
  have rds : ReadsAll (s.heap.push { cls := .type "tuple", data := .seq #[u0, v0] }) [u0, v0] [pd p, pd q] _ := .cons rd1 (.cons rd2 .nil)
  have cm := PySem.W.cmpIn_lt (prog := X.prog) (w := X.w) (A := X.A.in1) (s := { s with heap := s.heap.push { cls := .type "tuple", data := .seq #[u0, v0] } }) (vs := #[u0, v0]) rds (all_alike p q)
    (by show X.A.units + 1 + max 1 (max 1 0) < cLine; omega)
  refine wpAny_bind (wpAny_mono (PySem.W.iter_tupleW (A := X.A.in1) (vs := #[u0, v0]) (I.ok.hd hc) ⟨_, Heap.get?_push_size _ rfl, rfl, _, rfl⟩ (Q := fun it s2 => ∃ I' fp wr, ∃ G : Array GenState → Array GenState → Prop, ∃ St : Nat → Shared → Prop, it = .ref I' ∧
    WalksS X.prog X.w X.A.in1 I' fp wr G 2 (fun i v => #[u0, v0][i]? = some v) St ∧ St 0 s2 ∧ (∀ b ∈ fp, b < s2.heap.objs.size) ∧ (∀ b o, (s.heap.push { cls := .type "tuple", data := .seq #[u0, v0] }).get? b = some o → b ∉ wr) ∧
    (∀ b o, (s.heap.push { cls := .type "tuple", data := .seq #[u0, v0] }).get? b = some o → s2.heap.get? b = some o) ∧ s2.os = s.os ∧ s2.gens = s.gens ∧ G = (fun a b => b = a) ∧ s2.drawn = s.drawn) fun s2 e2 W st hfp hw hk => ?_) (fun it s2 hh => ?_) fun _ _ z => z)
  · exact ⟨_, _, _, _, _, rfl, W, st, hfp, hw, hk, by rw [e2], by rw [e2], rfl, by rw [e2]⟩
  · obtain ⟨I', fp, wr, G, St, rfl, W, hst, hfp, hw, hkeep, eo, eg, hG, ed⟩ := hh
    refine wpAny_bind (wpAny_newObj_type ?_)
    have hSf : s2.heap.objs.size ∉ fp := fun hm => Nat.lt_irrefl _ (hfp _ hm)
    rw [nm]
    refine wpAny_pure ⟨plainId_quiet F.plain_min_loop _, codeAny_min_loop_firstH W _ hw _ cm s2.heap.objs.size hSf (fresh_in hkeep) _ (by decide)
      (fun b o e => Heap.get?_push_of_some _ (hkeep b o e)) (W.frame 0 s2 _ s2.toks hst (Nat.le_refl _) fun b _ o e => Heap.get?_push_of_some _ e) (Heap.get?_push_size _ rfl) fun v' s' hP hm => ?_⟩
    have m := Moved.drop_new (tk := s2.toks) hm (Nat.le_refl _)
    have eb : argBest (fun i j => PySem.W.dataLt ([pd p, pd q].getD i PyData.none) ([pd p, pd q].getD j PyData.none)) (2 - 1) = if llt q p = true then 1 else 0 := by
      show (if PySem.W.dataLt (pd q) (pd p) = true then 1 else 0) = _
      rw [lt_pd]
    rw [eb] at hP
    have hs' : s' = { s with heap := s'.heap, toks := s'.toks } := by
      obtain ⟨hp', g', d', tk', os'⟩ := s'
      have h1 := m.gens
      rw [hG] at h1
      have h1 : g' = s.gens := h1.trans eg
      have h2 : d' = s.drawn := m.drawn.trans ed
      have h3 : os' = s.os := m.os.trans eo
      subst h1 h2 h3
      rfl
    have J : Inv X pins σ H { s with heap := s'.heap, toks := s'.toks } := I.kept fun b o z => by
      have z1 := Heap.get?_push_of_some { cls := .type "tuple", data := .seq #[u0, v0] } z
      exact m.heap b o (hw _ _ z1) (hkeep _ _ z1)
    rw [hs']
    cases hl : llt q p with
    | true =>
      rw [hl] at hP
      cases hP
      have e3 : mn p q = q := if_pos hl
      exact ⟨v, H, J, r2, h v (.inr rfl) (by rw [e3]; exact hq)⟩
    | false =>
      rw [hl] at hP
      cases hP
      have e3 : mn p q = p := if_neg (by rw [hl]; decide)
      exact ⟨u, H, J, r1, h u (.inl rfl) (by rw [e3]; exact hp)⟩
end
end Cl

namespace Cl
open PySem PySem.Spec PyProof.Rows L2
def pr (q : Addr × List Int) : Int × Int := (q.2.getD 0 0, q.2.getD 1 0)
def le2 (q r : Addr × List Int) : Prop := llt (pr r) (pr q) = false
theorem pr_of {q : Addr × List Int} (h : q.2.length = 2) : q.2 = [(pr q).1, (pr q).2] := by
  obtain ⟨a, xs⟩ := q
  match xs, h with
  | [x, y], _ => rfl
section
variable {P : Program} {w : World} {A : Around} {E : Value → Shared → Prop} {s : Shared} {a : Addr} {L : List (Addr × List Int)}
  {es : Array (Int × Value)} {ep : Nat} {t : SetTable} {Q : Value → Shared → Prop}
/-- sorted(set) of pairs of any whole numbers -/
theorem sorted_set2 (R : SetTR P w s.heap a L es ep t) (hh : A.handled = none) (h2 : ∀ p ∈ L, p.2.length = 2) (hu : A.units + 64 < cLine)
    (hQ : ∀ s' p (out : Array Value) (c : Nat) (L' : List (Addr × List Int)), (∀ b o, s.heap.get? b = some o → s'.heap.get? b = some o) →
      s'.gens = s.gens → s'.os = s.os → s.heap.objs.size ≤ p → s'.heap.get? p = some (seqObj "list" out c) →
      out.toList = L'.map (fun q => Value.ref q.1) → L'.Perm L → L'.Pairwise le2 → Q (.ref p) s') :
    wpAny (model P w) A (call (.builtin "sorted") [.ref a]) Q E s := by
  obtain ⟨o, ho, hex, hd⟩ := R.ob
  have nfew := R.few
  refine Calls.call_function_entry kind_sorted plain_sorted entry_sorted (args_sorted1 _) ?_
  unfold Builtin.«sorted»
  refine wpAny_bind (m := checkCount "sorted" 1 1 _) (wpAny_pure ?_)
  refine wpAny_bind (collect_set (A := A.in1) hh ⟨o, ho, hex.1, hd⟩ R.fits (by unfold scanBound; have := R.size; omega) R.tab.ris R.led fun s1 vs k1 hz g1 o1 pm => ?_)
  have rows : es.toList.map (·.2) = L.map fun q => Value.ref q.1 := by
    rw [R.rows]
    unfold rowsOf
    rw [List.map_map]
    rfl
  rw [rows] at pm
  -- what was collected is the set's rows, put in some order
  obtain ⟨L1, e1, p1⟩ : ∃ L1 : List (Addr × List Int), vs = L1.map (fun q => Value.ref q.1) ∧ L1.Perm L := by
    clear hQ k1 g1 o1 hz
    have gen : ∀ (L : List (Addr × List Int)) (us vs : List Value), us = L.map (fun q => Value.ref q.1) → vs.Perm us → ∃ L1 : List (Addr × List Int), vs = L1.map (fun q => Value.ref q.1) ∧ L1.Perm L := by
      intro L us vs eu hp
      induction hp generalizing L with
      | nil =>
        cases L with
        | nil => exact ⟨[], rfl, .nil⟩
        | cons q L => cases eu
      | @cons x l1 l2 hp ih =>
        cases L with
        | nil => cases eu
        | cons q L =>
          rw [List.map_cons] at eu
          injection eu with e2 e3
          obtain ⟨L1, e4, p4⟩ := ih L e3
          exact ⟨q :: L1, by rw [List.map_cons, e2, e4], p4.cons q⟩
      | swap x y l =>
        match L, eu with
        | q :: r :: L, eu =>
          rw [List.map_cons, List.map_cons] at eu
          injection eu with e2 e3
          injection e3 with e3 e4
          exact ⟨r :: q :: L, by rw [List.map_cons, List.map_cons, e2, e3, e4], .swap ..⟩
        | [_], eu => cases eu
        | [], eu => cases eu
      | trans h1 h2 ih1 ih2 =>
        obtain ⟨L2, e2, p2⟩ := ih2 L eu
        obtain ⟨L1, e1, p1⟩ := ih1 L2 e2
        exact ⟨L1, e1, p1.trans p2⟩
    exact gen L _ vs rfl pm
  have n1 : vs.length = L.length := by rw [e1, List.length_map, p1.length_eq]
  have small : vs.length ≤ sizeLine := by rw [sizeLine_eq]; omega
  refine wpAny_bind (wpAny_newList ?_ small)
  have oL : (s1.heap.push (seqObj "list" vs.toArray 0)).get? s1.heap.objs.size = some (seqObj "list" vs.toArray 0) := Heap.get?_push_size _ rfl
  let enc : Addr × List Int → PyData := fun q => .tuple [.int (pr q).1, .int (pr q).2]
  have reads : ∀ q ∈ L, ∃ as, Reads (s1.heap.push (seqObj "list" vs.toArray 0)) (.ref q.1) (enc q) as ∧ s1.heap.objs.size ∉ as := fun q hq => by
    obtain ⟨ob, its, n, x1, x2, x3, x4⟩ := R.tup q hq
    have x5 := ints_of_items x4
    rw [pr_of (h2 q hq)] at x5
    have lt := Heap.lt_size x1
    have y1 := Heap.get?_push_of_some (seqObj "list" vs.toArray 0) (k1 _ _ x1)
    obtain ⟨l, el⟩ : ∃ l, its.toList = l := ⟨_, rfl⟩
    rw [el] at x5
    have ei : its = l.toArray := by rw [← el]
    subst ei
    match l, x5 with
    | [.int _ t1, .int _ t2], .cons _ _ (.cons _ _ .nil) =>
      refine ⟨_, Reads.tuple y1 x2 x3 (.cons (.int _ _) (.cons (.int _ _) .nil)), fun z => ?_⟩
      have z2 : s1.heap.objs.size = q.1 := by simpa using z
      exact absurd (Nat.lt_of_lt_of_le lt hz) (by rw [z2]; exact Nat.lt_irrefl _)
  have each : ∀ l : List (Addr × List Int), (∀ q ∈ l, q ∈ L) → PySem.W.EachIs (fun (v : Value) (q : Addr × List Int) => v = .ref q.1) (l.map fun q => Value.ref q.1) l ∧
      PySem.W.EachIs (fun v q => ∃ as, Reads (s1.heap.push (seqObj "list" vs.toArray 0)) v (enc q) as ∧ s1.heap.objs.size ∉ as) (l.map fun q => Value.ref q.1) l := by
    intro l
    induction l with
    | nil => intro _; exact ⟨.nil, .nil⟩
    | cons q l ih =>
      intro h
      obtain ⟨i1, i2⟩ := ih fun r hr => h r (List.mem_cons_of_mem _ hr)
      exact ⟨.cons rfl i1, .cons (reads q (h q List.mem_cons_self)) i2⟩
  obtain ⟨c1, c2⟩ := each L1 fun q hq => p1.mem_iff.mp hq
  rw [← e1] at c1 c2
  refine wpAny_bind (wpAny_holding (PySem.W.list_sort_data (s := { s1 with heap := s1.heap.push (seqObj "list" vs.toArray 0) }) (enc := enc) oL c1 c2 (.of fun _ _ => rfl) (.tuples fun b => ⟨_, _, rfl⟩) (by rw [p1.length_eq, sizeLine_eq]; omega)
    (fun b _ => by show A.in1.units + 1 + 1 < cLine; show A.units + 1 + 1 + 1 < cLine; omega) fun out a1 a2 => ?_))
  obtain ⟨c, hc⟩ := sortedHeap_at (vs := vs) (out := out.toArray) oL
  have eo : out = (L1.mergeSort (PySem.W.dataLe false enc)).map fun q => Value.ref q.1 := by
    revert a2
    generalize L1.mergeSort (PySem.W.dataLe false enc) = M
    intro a2
    clear hc a1
    induction a2 with
    | nil => rfl
    | cons h t ih => rw [List.map_cons, ← ih, h]
  have pM : (L1.mergeSort (PySem.W.dataLe false enc)).Perm L := (List.mergeSort_perm _ _).trans p1
  have pw : (L1.mergeSort (PySem.W.dataLe false enc)).Pairwise le2 := by
    have hle : PySem.W.dataLe false enc = fun p q => decide ((pr p).1 < (pr q).1 ∨ ((pr p).1 = (pr q).1 ∧ (pr p).2 ≤ (pr q).2)) :=
      PySem.W.dataLe_ii (fun q => (pr q).1) (fun q => (pr q).2)
    rw [hle]
    refine List.Pairwise.imp (fun {q r} h => ?_) (List.pairwise_mergeSort (fun p q r h1 h2 => ?_) (fun p q => ?_) L1)
    · have h := of_decide_eq_true h
      unfold le2 llt
      exact decide_eq_false (by omega)
    · have h1 := of_decide_eq_true h1
      have h2 := of_decide_eq_true h2
      exact decide_eq_true (by omega)
    · rw [Bool.or_eq_true, decide_eq_true_eq, decide_eq_true_eq]
      omega
  refine wpAny_pure ⟨_, rfl, hQ _ s1.heap.objs.size out.toArray c (L1.mergeSort (PySem.W.dataLe false enc)) (fun b u e => ?_) g1 o1 hz hc eo pM pw⟩
  have e5 := k1 b u e
  have lt5 := Heap.lt_size e5
  show (sortedHeap (s1.heap.push (seqObj "list" vs.toArray 0)) s1.heap.objs.size vs out.toArray).get? b = some u
  rw [sortedHeap_old (Nat.ne_of_lt lt5) (by rw [size_push']; exact Nat.lt_succ_of_lt lt5)]
  exact Heap.get?_push_of_some _ e5
end
section
variable {X : Cx}
def rSortedS2 (K : PySem.W.Frag) (P : Program) (w : World) : List V → Hp → VK → Prop := fun vs H Q => ∃ (a : Addr) (L : List (Addr × List Int)),
  vs = [V.ref a] ∧ H a = some (SetTO P w a L) ∧ (∀ p ∈ L, SqT K H p.1 (p.2.map V.int)) ∧ (∀ p ∈ L, p.2.length = 2) ∧
  ∀ L' : List (Addr × List Int), L'.Perm L → (L'.map (·.2)).Nodup → L'.Pairwise le2 → New H (.lst (L'.map fun q => V.ref q.1)) Q
theorem cr_sortedS2 (hc : X.calm = true) (hu : X.A.units + 64 < cLine) : CallR X (.builtin "sorted") (rSortedS2 X.K X.prog X.w) := by
  intro pins s σ H vs us Q I r ⟨a, L, e, ha, hk, h2, q⟩
  subst e
  obtain ⟨es, ep, t, R⟩ := SetT0.full (I.hok a _ ha).1 fun p hp => I.isT (hk p hp)
  rw [Vals.ref1 r]
  refine sorted_set2 R (I.ok.hd hc) h2 hu fun s' p out c L' k g o hp hg hout pm pw => ?_
  have few : L'.length < 64 := by rw [pm.length_eq]; exact R.few
  have len : (L'.map fun q => V.ref q.1).length ≤ sizeLine := by rw [List.length_map, sizeLine_eq]; omega
  have hn : H p = none := I.hok.fresh hp
  have hv : Vals (L'.map fun q => V.ref q.1) out.toList := by rw [hout]; exact vals_of_refs L'
  have J : Inv X pins σ (upd H p (.lst (L'.map fun q => V.ref q.1))) { s with heap := s'.heap, gens := s'.gens, drawn := s'.drawn, toks := s'.toks } :=
    I.call (ch := []) (Un.laid k hp hn) (I.hok.laid k hp ⟨len, out.toList, c, hv, hg⟩) (by rw [g]; exact I.bare) (fun _ z => nomatch z)
  have e : s' = { s with heap := s'.heap, gens := s'.gens, drawn := s'.drawn, toks := s'.toks } := by
    cases s'
    cases s
    cases o
    rfl
  rw [e]
  exact ⟨.ref p, _, J, rfl, (q L' pm ((pm.map (·.2)).nodup_iff.mpr R.nd) pw).go p hn⟩
def rSetN (K : PySem.W.Frag) (P : Program) (w : World) : List V → Hp → VK → Prop := fun xs H Q => ∃ (l : Addr) (ks : List (Addr × List Int)), xs = [V.ref l] ∧ SqL K H l (ks.map fun p => V.ref p.1) ∧
  (∀ p ∈ ks, SqT K H p.1 (p.2.map V.int)) ∧ ks.length < 64 ∧ ∀ a H' L, Same H H' → H a = none → H' a = some (SetTO P w a L) → (∀ p ∈ L, p ∈ ks) → (∀ p ∈ ks, p.2 ∈ L.map (·.2)) → Q (.ref a) H'
theorem cr_setN (hc : X.calm = true) (hu : X.A.units + 64 < cLine) : CallR X (.type "set") (rSetN X.K X.prog X.w) := by
  intro pins s σ H xs us Q I r ⟨l, ks, e, h1, h2, h3, q⟩
  exact cr_setOfT hc hu pins s σ H xs us Q I r ⟨l, ks, e, h1, h2, h3, fun a L n s1 s2 => q a _ L (same_new n) n upd_same s1 s2⟩
end
end Cl

namespace Cl
open PySem PySem.Spec PyProof.Rows L2 HT
/-! ### t[::-1] of a tuple -/
theorem rev_adjust (n : Nat) : Builtin.Slice.sliceAdjust none none (-1) (n : Int) = ((n : Int) - 1, -1) := rfl
theorem rev_places (n : Nat) : Builtin.Slice.slicePlaces ((n : Int) - 1) (-1) (-1) = n := by
  unfold Builtin.Slice.slicePlaces
  rw [if_neg (by decide)]
  split
  · rw [show ((n : Int) - 1 - -1 - 1) / (- -1) = (n : Int) - 1 by rw [show (- -1 : Int) = 1 by decide, Int.ediv_one]; omega]
    omega
  · omega
theorem fm_congr {α β : Type} {f g : α → Option β} : ∀ (l : List α), (∀ k ∈ l, f k = g k) → l.filterMap f = l.filterMap g
  | [], _ => rfl
  | x :: l, h => by
    rw [List.filterMap_cons, List.filterMap_cons, h x List.mem_cons_self, fm_congr l fun k hk => h k (List.mem_cons_of_mem _ hk)]
theorem rev_pick (xs : Array Value) : ((List.range xs.size).filterMap fun (k : Nat) => xs[((xs.size : Int) - 1 + (k : Int) * -1).toNat]?).toArray = xs.toList.reverse.toArray := by
  congr 1
  have e : (List.range xs.size).filterMap (fun (k : Nat) => xs[((xs.size : Int) - 1 + (k : Int) * -1).toNat]?) =
      ((List.range xs.size).map fun k => xs.size - 1 - k).filterMap (xs[·]?) := by
    rw [List.filterMap_map]
    refine fm_congr _ fun k hk => ?_
    have hk := List.mem_range.mp hk
    show xs[((xs.size : Int) - 1 + (k : Int) * -1).toNat]? = xs[xs.size - 1 - k]?
    congr 1
    omega
  rw [e, PySem.W.krv_range, List.filterMap_reverse, PySem.W.krv_all]
section
variable {prog : Program} {w : World} {A : Around} {E : Value → Shared → Prop} {s : Shared}
theorem getItem_tuple_rev {t sl : Addr} {items : Array Value} {tk : Tok} {Q : Value → Shared → Prop} (ht : IsTup s.heap t items)
    (hs : s.heap.IsSliceOf sl .none .none (.int (-1) tk)) (hsz : items.size ≤ sizeLine)
    (h : Q (.ref s.heap.objs.size) { s with heap := s.heap.push { cls := .type "tuple", data := .seq items.toList.reverse.toArray } }) :
    wpAny (model prog w) A (getItem (.ref t) (.ref sl)) Q E s := by
  obtain ⟨os, hos, hcs, hds⟩ := id hs
  have isS : s.TypeIs (.ref sl) "slice" := ⟨os, hos, hcs⟩
  have fits : sizeOk (.seq items.toList.reverse.toArray) := by
    show items.toList.reverse.toArray.size ≤ sizeLine
    rw [List.size_toArray, List.length_reverse, Array.length_toList]
    exact hsz
  unfold getItem
  try with_reducible refine wpAny_holding ?_
  first | refine wpAny_bind (wpAny_pure ?_) | skip
  refine wpAny_bind (wpAny_sequenceKey ht.typeIs (by decide) ?_)
  refine wpAny_bind (wpAny_callSpecial?_slot (name := Str.ofString "__getitem__") ht.typeIs PyProof.Rows.slot_tuple_getitem
    (wpAny_call_entry PyProof.Rows.slot_tuple_getitem ht.typeIs entry_tuple_getitem ?_ (args_tuple_getitem _ _)))
  show wpAny _ _ (Builtin.Tuple.tupleItemsOf (.ref t) >>= _) _ _ s
  refine wpAny_bind (tupleItemsOf_ ht ?_)
  refine wpAny_bind (wpAny_typeOf isS ?_)
  rw [if_pos (by decide)]
  have applied : ∀ (A' : Around) (E' : Value → Shared → Prop) (Q' : Int × Int × Nat → Shared → Prop), Q' ((items.size : Int) - 1, -1, items.size) s →
      wpAny (model prog w) A' (Builtin.Slice.sliceApplied (.ref sl) (pure (items.size : Int))) Q' E' s := fun A' E' Q' q => by
    unfold Builtin.Slice.sliceApplied Builtin.Slice.sliceFields
    refine wpAny_bind (wpAny_bind (wpAny_field hos hds (x := .none) rfl (wpAny_bind (wpAny_field hos hds (x := .none) rfl (wpAny_bind (wpAny_field hos hds (x := .int (-1) tk) rfl (wpAny_pure ?_)))))))
    refine wpAny_bind (slicePart_ (.int (-1) tk) ?_)
    show wpAny _ _ (if ((-1 : Int) == 0) = true then _ else _) _ _ s
    rw [if_neg (by decide)]
    refine wpAny_bind (slicePart_ .none (wpAny_bind (slicePart_ .none (wpAny_bind (wpAny_pure ?_)))))
    show wpAny _ _ (match Builtin.Slice.sliceAdjust none none (-1) (items.size : Int) with | (lo, hi) => pure (lo, (-1 : Int), Builtin.Slice.slicePlaces lo hi (-1))) _ _ s
    rw [rev_adjust]
    show wpAny _ _ (pure ((items.size : Int) - 1, (-1 : Int), Builtin.Slice.slicePlaces ((items.size : Int) - 1) (-1) (-1))) _ _ s
    rw [rev_places]
    exact wpAny_pure q
  refine wpAny_bind (applied _ _ _ ?_)
  have notw : ¬ ((((items.size : Int) - 1) == 0 && (-1 : Int) == 1 && items.size == items.size) = true) := by
    rw [show ((-1 : Int) == 1) = false by decide, Bool.and_false, Bool.false_and]
    decide
  show wpAny _ _ (if (((items.size : Int) - 1) == 0 && (-1 : Int) == 1 && items.size == items.size) = true then _ else _) _ _ s
  rw [if_neg notw, rev_pick]
  first
    | exact wpAny_bind (m := Builtin.Tuple.tupleExact _) (wpAny_newObj_type (wpAny_pure ⟨_, rfl, wpAny_pure h⟩) fits)
    | exact wpAny_bind (m := Builtin.Tuple.tupleExact _) (wpAny_newObj_type (wpAny_bind (wpAny_pure (wpAny_pure ⟨_, rfl, wpAny_pure h⟩))) fits)
    | exact wpAny_bind (wpAny_bind (m := Builtin.Tuple.tupleExact _) (wpAny_newObj_type (wpAny_pure (wpAny_pure ⟨_, rfl, wpAny_pure h⟩)) fits))
    | exact wpAny_bind (wpAny_bind (m := Builtin.Tuple.tupleExact _) (wpAny_newObj_type (wpAny_pure ⟨_, rfl, wpAny_pure h⟩) fits))
end
section
variable {X : Cx} {e : Expr} {te : TE}
def tRevT (K : PySem.W.Frag) (te : TE) : TE := fun σ H Q => te σ H fun x H1 => ∃ a xs, x = .ref a ∧ SqT K H1 a xs ∧ New H1 (.tup xs.reverse) Q
theorem pe_revT {p0 p1 p2 pos : Pos} {j : Nat} (he : PE X e te) :
    PE X (.Subscript e (.Slice none none (some (.UnaryOp .USub (.Constant (.int 1) j p0) p1)) p2) pos) (tRevT X.K te) := by
  constructor
  intro pins s σ H Q I h
  refine Subscript_ (thn (he.run pins s σ H _ I h) fun v s1 ⟨x, H1, I1, r1, a, xs, hx, hl, q⟩ => ?_)
  subst hx
  cases r1
  refine wpAny_Slice ?_
  rw [evalPart_none]
  refine wpAny_pure ?_
  refine wpAny_pure ?_
  rw [evalPart_some]
  have neg : PE X (.UnaryOp .USub (.Constant (.int 1) j p0) p1) _ := pe_un un_neg pe_int
  refine thn (neg.run pins s1 σ H1 (fun y H2 => y = .int (-1) ∧ H2 = H1) I1 ⟨1, rfl, rfl, rfl⟩) fun u s2 ⟨y, H2, I2, ry, hy, hH⟩ => ?_
  subst hy hH
  obtain ⟨t, rfl⟩ := ry
  have I4 : Inv X pins σ H2 { s2 with heap := s2.heap.push { cls := .type "slice", data := .fields #[.none, .none, .int (-1) t] } } :=
    I2.kept (t' := s2.toks) fun b ob z => Heap.get?_push_of_some _ z
  obtain ⟨its, r, ht, hz⟩ := I4.tuple hl
  have nl := r.length
  refine tail_any ht.typeIs PyProof.Rows.slot_tuple_getitem.lookup ?_ (by with_unfolding_all rfl)
  refine getItem_tuple_rev ht (Heap.IsSliceOf.new ..) (by rw [List.size_toArray] <;> omega) ?_
  refine ⟨.ref _, _, I4.laid (t' := s2.toks) (o := .tup xs.reverse) (fun b ob z => Heap.get?_push_of_some _ z) (Nat.le_refl _) ?_, rfl, q.go _ (I4.hok.fresh (Nat.le_refl _))⟩
  exact ⟨by rw [List.length_reverse]; exact hz, _, valsRev r, IsTup.new _ _⟩
end

/-! ### more rules that hand on a new object -/
section
variable {X : Cx}
def rCatTN (K : PySem.W.Frag) : R2 := fun x y H Q => ∃ a b xs ys, x = .ref a ∧ y = .ref b ∧ SqT K H a xs ∧ SqT K H b ys ∧ xs ≠ [] ∧ ys ≠ [] ∧
  xs.length + ys.length ≤ sizeLine ∧ New H (.tup (xs ++ ys)) Q
theorem op_catTN : OpR X (binaryOp .Add) (rCatTN X.K) := fun pins s σ H x y v u Q I rx ry ⟨a, b, xs, ys, h1, h2, h3, h4, h5, h6, h7, q⟩ =>
  op_catT pins s σ H x y v u Q I rx ry ⟨a, b, xs, ys, h1, h2, h3, h4, h5, h7, fun z => absurd z h6, fun _ => q.go⟩
def rCatLN : R2 := fun x y H Q => ∃ l b xs zs, x = .ref l ∧ y = .ref b ∧ H l = some (.lst xs) ∧ H b = some (.lst zs) ∧ xs.length + zs.length ≤ sizeLine ∧ New H (.lst (xs ++ zs)) Q
theorem op_catLN : OpR X (binaryOp .Add) rCatLN := fun pins s σ H x y v u Q I rx ry ⟨l, b, xs, zs, h1, h2, h3, h4, h5, q⟩ =>
  op_cat pins s σ H x y v u Q I rx ry ⟨l, b, xs, zs, h1, h2, h3, h4, h5, q.go⟩
theorem call_tuple_ofN : CallR X (.type "tuple") (fun xs H Q => ∃ p ys, xs = [.ref p] ∧ SqL X.K H p ys ∧ New H (.tup ys) Q) :=
  fun pins s σ H xs us Q I r ⟨p, ys, h1, h2, q⟩ => call_tuple_of pins s σ H xs us Q I r ⟨p, ys, h1, .inl ⟨h2, q.go⟩⟩
end
end Cl

namespace Cl
open PySem PySem.Spec PyProof.Rows L2
/-! ### what two lines have in common: the mathematics -/
abbrev Pt := Int × Int
abbrev Ln := Pt × Pt
abbrev S3 := Int × Int × Int
def trn (p q : Pt) : Int := p.1 * q.2 - p.2 * q.1
def less (p q : Pt) : Pt := (p.1 - q.1, p.2 - q.2)
def sp3 (n m d : Int) : S3 := (n / spP n m d, m / spP n m d, d / spP n m d)
theorem sp3_scale {n m d t : Int} (ht : 0 < t) (hd : 0 < d) : sp3 (n * t) (m * t) (d * t) = sp3 n m d := by
  have hdt : 0 < d * t := Int.mul_pos hd ht
  have e : spP (n * t) (m * t) (d * t) = spP n m d * t := by
    unfold spP gpar
    rw [if_neg (by omega), if_neg (by omega), Int.gcd_mul_right]
    have c : (((Int.gcd n m * t.natAbs : Nat)) : Int) = (Int.gcd n m : Nat) * t := by
      rw [Int.natCast_mul, Int.natAbs_of_nonneg (by omega)]
    rw [c, Int.gcd_mul_right, Int.natCast_mul, Int.natAbs_of_nonneg (by omega)]
  unfold sp3
  rw [e, Int.mul_ediv_mul_of_pos_left _ _ ht, Int.mul_ediv_mul_of_pos_left _ _ ht, Int.mul_ediv_mul_of_pos_left _ _ ht]
/-- the shares and their bottom, the bottom above nought -/
def kfs (l r : Ln) : Int := if trn (less l.2 l.1) (less r.2 r.1) < 0 then -1 else 1
def klm (l r : Ln) : Int × Int × Int :=
  (trn (less r.1 l.1) (less r.2 r.1) * kfs l r, trn (less r.1 l.1) (less l.2 l.1) * kfs l r, trn (less l.2 l.1) (less r.2 r.1) * kfs l r)
def acr (l r : Ln) : List S3 :=
  let t := klm l r
  if (0 ≤ t.1 ∧ t.1 ≤ t.2.2) ∧ (0 ≤ t.2.1 ∧ t.2.1 ≤ t.2.2) then
    [sp3 (t.2.2 * l.1.1 + t.1 * (l.2.1 - l.1.1)) (t.2.2 * l.1.2 + t.1 * (l.2.2 - l.1.2)) t.2.2] else []
def lo (l r : Ln) : Pt := mx (mn l.1 l.2) (mn r.1 r.2)
def hi (l r : Ln) : Pt := mn (mx l.1 l.2) (mx r.1 r.2)
def alo (l r : Ln) : List S3 :=
  if llt (hi l r) (lo l r) then [] else if lo l r = hi l r then [((lo l r).1, (lo l r).2, 1)] else [((lo l r).1, (lo l r).2, 1), ((hi l r).1, (hi l r).2, 1)]
def cmn (l r : Ln) : List S3 :=
  if trn (less l.2 l.1) (less r.2 r.1) ≠ 0 then acr l r else if trn (less l.2 l.1) (less r.1 l.1) ≠ 0 then [] else alo l r
def rev (l : Ln) : Ln := (l.2, l.1)

theorem trn_neg (p q : Pt) : trn p q = -trn q p := by
  unfold trn; grind
theorem mn_comm (p q : Pt) : mn p q = mn q p := by
  obtain ⟨a, b⟩ := p
  obtain ⟨c, d⟩ := q
  unfold mn llt
  by_cases h1 : c < a ∨ (c = a ∧ d < b) <;> by_cases h2 : a < c ∨ (a = c ∧ b < d) <;> simp [h1, h2] <;> omega
theorem mx_comm (p q : Pt) : mx p q = mx q p := by
  obtain ⟨a, b⟩ := p
  obtain ⟨c, d⟩ := q
  unfold mx llt
  by_cases h1 : c < a ∨ (c = a ∧ d < b) <;> by_cases h2 : a < c ∨ (a = c ∧ b < d) <;> simp [h1, h2] <;> omega
theorem lo_swap (l r : Ln) : lo r l = lo l r := mx_comm ..
theorem hi_swap (l r : Ln) : hi r l = hi l r := mn_comm ..
theorem alo_swap (l r : Ln) : alo r l = alo l r := by unfold alo; rw [lo_swap, hi_swap]
theorem alo_rev (l r : Ln) : alo (rev l) r = alo l r := by
  unfold alo lo hi rev
  rw [mn_comm l.2, mx_comm l.2]

theorem klm_swap (l r : Ln) (h : trn (less l.2 l.1) (less r.2 r.1) ≠ 0) : klm r l = ((klm l r).2.1, (klm l r).1, (klm l r).2.2) := by
  have e := trn_neg (less r.2 r.1) (less l.2 l.1)
  have ek : kfs r l = -kfs l r := by
    unfold kfs
    rw [e]
    split <;> split <;> omega
  unfold klm
  rw [ek]
  unfold trn less
  refine Prod.ext ?_ (Prod.ext ?_ ?_) <;> simp only <;> grind
theorem klm_pos (l r : Ln) (h : trn (less l.2 l.1) (less r.2 r.1) ≠ 0) : 0 < (klm l r).2.2 := by
  show 0 < trn (less l.2 l.1) (less r.2 r.1) * kfs l r
  unfold kfs
  split <;> omega
theorem acr_swap (l r : Ln) (h : trn (less l.2 l.1) (less r.2 r.1) ≠ 0) : acr r l = acr l r := by
  unfold acr
  rw [klm_swap l r h]
  simp only
  have e1 : (klm l r).2.2 * r.1.1 + (klm l r).2.1 * (r.2.1 - r.1.1) = (klm l r).2.2 * l.1.1 + (klm l r).1 * (l.2.1 - l.1.1) := by
    unfold klm trn less
    simp only
    grind
  have e2 : (klm l r).2.2 * r.1.2 + (klm l r).2.1 * (r.2.2 - r.1.2) = (klm l r).2.2 * l.1.2 + (klm l r).1 * (l.2.2 - l.1.2) := by
    unfold klm trn less
    simp only
    grind
  rw [e1, e2]
  split <;> split <;> first | rfl | (exfalso; omega)
theorem klm_rev (l r : Ln) (h : trn (less l.2 l.1) (less r.2 r.1) ≠ 0) : klm (rev l) r = ((klm l r).2.2 - (klm l r).1, (klm l r).2.1, (klm l r).2.2) := by
  have e : trn (less l.1 l.2) (less r.2 r.1) = -trn (less l.2 l.1) (less r.2 r.1) := by unfold trn less; grind
  have ek : kfs (rev l) r = -kfs l r := by
    unfold kfs rev
    simp only
    rw [e]
    split <;> split <;> omega
  unfold klm
  rw [ek]
  unfold trn less rev
  refine Prod.ext ?_ (Prod.ext ?_ ?_) <;> simp only <;> grind
theorem acr_rev (l r : Ln) (h : trn (less l.2 l.1) (less r.2 r.1) ≠ 0) : acr (rev l) r = acr l r := by
  unfold acr
  rw [klm_rev l r h]
  simp only
  have e1 : (klm l r).2.2 * (rev l).1.1 + ((klm l r).2.2 - (klm l r).1) * ((rev l).2.1 - (rev l).1.1) = (klm l r).2.2 * l.1.1 + (klm l r).1 * (l.2.1 - l.1.1) := by
    unfold rev
    grind
  have e2 : (klm l r).2.2 * (rev l).1.2 + ((klm l r).2.2 - (klm l r).1) * ((rev l).2.2 - (rev l).1.2) = (klm l r).2.2 * l.1.2 + (klm l r).1 * (l.2.2 - l.1.2) := by
    unfold rev
    grind
  rw [e1, e2]
  split <;> split <;> first | rfl | (exfalso; omega)
theorem cmn_rev (l r : Ln) : cmn (rev l) r = cmn l r := by
  have e : trn (less l.1 l.2) (less r.2 r.1) = -trn (less l.2 l.1) (less r.2 r.1) := by unfold trn less; grind
  have e2 : trn (less l.1 l.2) (less r.1 l.2) = -trn (less l.2 l.1) (less r.1 l.1) := by unfold trn less; grind
  unfold cmn
  show (if trn (less l.1 l.2) (less r.2 r.1) ≠ 0 then acr (rev l) r else if trn (less l.1 l.2) (less r.1 l.2) ≠ 0 then [] else alo (rev l) r) = _
  rw [e, e2, alo_rev]
  by_cases h : trn (less l.2 l.1) (less r.2 r.1) = 0
  · rw [h]; by_cases h2 : trn (less l.2 l.1) (less r.1 l.1) = 0 <;> simp [h2]
  · rw [if_pos (by omega), if_pos h, acr_rev l r h]
theorem par (w u f : Pt) (hw : w ≠ (0, 0)) (h1 : trn w u = 0) (h2 : trn w f = 0) : trn u f = 0 := by
  obtain ⟨w1, w2⟩ := w
  obtain ⟨u1, u2⟩ := u
  obtain ⟨f1, f2⟩ := f
  unfold trn at *
  simp only at *
  by_cases h : w1 = 0
  · have h0 : w2 ≠ 0 := fun z => hw (by rw [h, z])
    have : w2 * (u1 * f2 - u2 * f1) = 0 := by grind
    rcases Int.mul_eq_zero.mp this with z | z
    · exact absurd z h0
    · exact z
  · have : w1 * (u1 * f2 - u2 * f1) = 0 := by grind
    rcases Int.mul_eq_zero.mp this with z | z
    · exact absurd z h
    · exact z
theorem less_ne {p q : Pt} (h : q ≠ p) : less p q ≠ (0, 0) := fun z => h (by
  obtain ⟨a, b⟩ := p
  obtain ⟨c, d⟩ := q
  unfold less at z
  injection z with z1 z2
  simp only at z1 z2
  exact Prod.ext (by simp only; omega) (by simp only; omega))
theorem cmn_swap (l r : Ln) (hl : l.1 ≠ l.2) (hr : r.1 ≠ r.2) : cmn r l = cmn l r := by
  unfold cmn
  have e := trn_neg (less r.2 r.1) (less l.2 l.1)
  by_cases h : trn (less l.2 l.1) (less r.2 r.1) = 0
  · rw [e, h, alo_swap]
    have e3 : trn (less r.2 r.1) (less l.1 r.1) = 0 ↔ trn (less l.2 l.1) (less r.1 l.1) = 0 := by
      have n1 : ∀ p : Pt, trn p (less l.1 r.1) = -trn p (less r.1 l.1) := fun p => by unfold trn less; grind
      rw [n1]
      constructor
      · intro z
        exact par _ _ _ (less_ne hr) (by rw [e, h]; rfl) (by omega)
      · intro z
        have := par _ _ _ (less_ne hl) h z
        omega
    by_cases h2 : trn (less l.2 l.1) (less r.1 l.1) = 0
    · simp [h2, e3.mpr h2]
    · simp [h2, show ¬ trn (less r.2 r.1) (less l.1 r.1) = 0 from fun z => h2 (e3.mp z)]
  · rw [if_pos (by omega), if_pos h, acr_swap l r h]
theorem cmn_rev2 (l r : Ln) (hl : l.1 ≠ l.2) (hr : r.1 ≠ r.2) : cmn l (rev r) = cmn l r := by
  rw [← cmn_swap l (rev r) hl (fun z => hr z.symm), cmn_rev, cmn_swap l r hl hr]

/-! ### along one straight line: the first and the last of what lies in both -/
def ple (p q : Pt) : Prop := llt q p = false
theorem ple_iff {p q : Pt} : ple p q ↔ ¬ (q.1 < p.1 ∨ (q.1 = p.1 ∧ q.2 < p.2)) := by
  unfold ple llt
  exact decide_eq_false_iff_not
theorem ple_refl (p : Pt) : ple p p := ple_iff.mpr (by omega)
theorem ple_trans {p q r : Pt} (h1 : ple p q) (h2 : ple q r) : ple p r := by
  rw [ple_iff] at *
  omega
theorem ple_antisymm {p q : Pt} (h1 : ple p q) (h2 : ple q p) : p = q := by
  rw [ple_iff] at *
  exact Prod.ext (by omega) (by omega)
theorem ple_of {p q : Pt} (h : llt p q = true) : ple p q := by
  have h := of_decide_eq_true h
  rw [ple_iff]
  omega
theorem mn_or (p q : Pt) : (mn p q = p ∨ mn p q = q) ∧ ple (mn p q) p ∧ ple (mn p q) q := by
  unfold mn
  cases h : llt q p with
  | true => exact ⟨.inr rfl, ple_of h, ple_refl _⟩
  | false => exact ⟨.inl rfl, ple_refl _, h⟩
theorem mx_or (p q : Pt) : (mx p q = p ∨ mx p q = q) ∧ ple p (mx p q) ∧ ple q (mx p q) := by
  unfold mx
  cases h : llt p q with
  | true => exact ⟨.inr rfl, ple_of h, ple_refl _⟩
  | false => exact ⟨.inl rfl, ple_refl _, h⟩
def within (p : Pt) (r : Ln) : Prop := ple (mn r.1 r.2) p ∧ ple p (mx r.1 r.2)
def inBoth (l r : Ln) (p : Pt) : Prop := ((p = l.1 ∨ p = l.2) ∧ within p r) ∨ ((p = r.1 ∨ p = r.2) ∧ within p l)
theorem self_in {p : Pt} {l : Ln} (h : p = l.1 ∨ p = l.2) : within p l := by
  obtain ⟨_, a2, a3⟩ := mn_or l.1 l.2
  obtain ⟨_, b2, b3⟩ := mx_or l.1 l.2
  rcases h with rfl | rfl
  · exact ⟨a2, b2⟩
  · exact ⟨a3, b3⟩
theorem inBoth_two {l r : Ln} {p : Pt} (h : inBoth l r p) : within p l ∧ within p r := by
  rcases h with ⟨h1, h2⟩ | ⟨h1, h2⟩
  · exact ⟨self_in h1, h2⟩
  · exact ⟨h2, self_in h1⟩
theorem inBoth_mid {l r : Ln} {p : Pt} (h : inBoth l r p) : ple (lo l r) p ∧ ple p (hi l r) := by
  obtain ⟨⟨a1, a2⟩, b1, b2⟩ := inBoth_two h
  unfold lo hi
  constructor
  · rcases (mx_or (mn l.1 l.2) (mn r.1 r.2)).1 with z | z <;> rw [z] <;> assumption
  · rcases (mn_or (mx l.1 l.2) (mx r.1 r.2)).1 with z | z <;> rw [z] <;> assumption
theorem lo_in {l r : Ln} (h : ple (lo l r) (hi l r)) : inBoth l r (lo l r) := by
  have hl : ple (lo l r) (mx l.1 l.2) := ple_trans h (mn_or _ _).2.1
  have hr : ple (lo l r) (mx r.1 r.2) := ple_trans h (mn_or _ _).2.2
  obtain ⟨c, d1, d2⟩ := mx_or (mn l.1 l.2) (mn r.1 r.2)
  rcases c with z | z
  · refine .inl ⟨?_, d2, hr⟩
    show lo l r = _ ∨ lo l r = _
    unfold lo; rw [z]; exact (mn_or _ _).1
  · refine .inr ⟨?_, d1, hl⟩
    show lo l r = _ ∨ lo l r = _
    unfold lo; rw [z]; exact (mn_or _ _).1
theorem hi_in {l r : Ln} (h : ple (lo l r) (hi l r)) : inBoth l r (hi l r) := by
  have hl : ple (mn l.1 l.2) (hi l r) := ple_trans (mx_or _ _).2.1 h
  have hr : ple (mn r.1 r.2) (hi l r) := ple_trans (mx_or _ _).2.2 h
  obtain ⟨c, d1, d2⟩ := mn_or (mx l.1 l.2) (mx r.1 r.2)
  rcases c with z | z
  · refine .inl ⟨?_, hr, d2⟩
    show hi l r = _ ∨ hi l r = _
    unfold hi; rw [z]; exact (mx_or _ _).1
  · refine .inr ⟨?_, hl, d1⟩
    show hi l r = _ ∨ hi l r = _
    unfold hi; rw [z]; exact (mx_or _ _).1
def one3 (p : Pt) : S3 := (p.1, p.2, 1)
theorem along_due (l r : Ln) (T : List Pt) (hs : T.Pairwise ple) (nd : T.Nodup) (mem : ∀ p, p ∈ T ↔ inBoth l r p) :
    (T.take 1 ++ (T.drop 1).drop ((T.drop 1).length - 1)).map one3 = alo l r := by
  unfold alo
  cases hh : llt (hi l r) (lo l r) with
  | true =>
    have : T = [] := by
      refine List.eq_nil_iff_forall_not_mem.mpr fun p hp => ?_
      obtain ⟨a, b⟩ := inBoth_mid ((mem p).mp hp)
      have z : ple (lo l r) (hi l r) := ple_trans a b
      unfold ple at z
      rw [hh] at z
      cases z
    subst this
    rfl
  | false =>
    have hle : ple (lo l r) (hi l r) := hh
    have m1 := (mem _).mpr (lo_in hle)
    have m2 := (mem _).mpr (hi_in hle)
    cases T with
    | nil => cases m1
    | cons a t =>
      obtain ⟨p1, p2⟩ := List.pairwise_cons.mp hs
      obtain ⟨n1, n2⟩ := List.nodup_cons.mp nd
      have ha : a = lo l r := by
        have b := (inBoth_mid ((mem a).mp List.mem_cons_self)).1
        rcases List.mem_cons.mp m1 with z | z
        · exact z.symm
        · exact ple_antisymm (p1 _ z) b
      subst ha
      rw [if_neg (by decide)]
      rcases List.eq_nil_or_concat t with rfl | ⟨t', b, rfl⟩
      · have : hi l r = lo l r := by simpa using m2
        rw [if_pos this.symm]
        rfl
      · have hb : b = hi l r := by
          have c := (inBoth_mid ((mem b).mp (List.mem_cons_of_mem _ (by simp)))).2
          refine ple_antisymm c ?_
          rcases List.mem_cons.mp m2 with z | z
          · rw [z]; exact p1 b (by simp)
          · rcases List.mem_append.mp (by simpa using z : hi l r ∈ t' ++ [b]) with z | z
            · rw [List.concat_eq_append] at p2
              exact (List.pairwise_append.mp p2).2.2 _ z _ (by simp)
            · rw [List.mem_singleton.mp z]; exact ple_refl _
        have ne : lo l r ≠ hi l r := fun z => n1 (by rw [z, ← hb]; simp)
        rw [if_neg ne]
        subst hb
        simp [one3]
end Cl

namespace Cl
open PySem PySem.Spec PyProof.Rows L2
/-! ### lines, spots and tuples of them where they stand -/
def AtL (K : PySem.W.Frag) (H : Hp) (v : V) (l : Ln) : Prop := ∃ a u w, v = .ref a ∧ SqT K H a [u, w] ∧ At2 K H u l.1 ∧ At2 K H w l.2
def At3 (K : PySem.W.Frag) (H : Hp) (v : V) (s : S3) : Prop := ∃ a, v = .ref a ∧ SqT K H a [.int s.1, .int s.2.1, .int s.2.2]
inductive AllAt {α : Type} (R : V → α → Prop) : List V → List α → Prop
  | nil : AllAt R [] []
  | cons {v : V} {x : α} {vs : List V} {xs : List α} : R v x → AllAt R vs xs → AllAt R (v :: vs) (x :: xs)
def AtS (K : PySem.W.Frag) (H : Hp) (v : V) (ss : List S3) : Prop := ∃ a vs, v = .ref a ∧ SqT K H a vs ∧ AllAt (At3 K H) vs ss
def AtP (K : PySem.W.Frag) (H : Hp) (v : V) (ps : List Pt) : Prop := ∃ a vs, v = .ref a ∧ SqT K H a vs ∧ AllAt (At2 K H) vs ps
def BdP (p : Pt) : Prop := (-(2 ^ 60) < p.1 ∧ p.1 < 2 ^ 60) ∧ (-(2 ^ 60) < p.2 ∧ p.2 < 2 ^ 60)
def BdC (p : Pt) : Prop := (-(2 ^ 40) < p.1 ∧ p.1 < 2 ^ 40) ∧ (-(2 ^ 40) < p.2 ∧ p.2 < 2 ^ 40)
def BdL (l : Ln) : Prop := BdC l.1 ∧ BdC l.2
section
variable {K : PySem.W.Frag} {H H' : Hp} {v : V}
theorem AtL.same {l : Ln} (h : AtL K H v l) (s : Same H H') : AtL K H' v l := by
  obtain ⟨a, u, w, rfl, h1, h2, h3⟩ := h
  exact ⟨a, u, w, rfl, seT s h1, h2.same s, h3.same s⟩
theorem At3.same {t : S3} (h : At3 K H v t) (s : Same H H') : At3 K H' v t := by
  obtain ⟨a, rfl, h⟩ := h
  exact ⟨a, rfl, seT s h⟩
theorem AllAt.map {α : Type} {R R' : V → α → Prop} (f : ∀ v x, R v x → R' v x) : ∀ {vs : List V} {xs : List α}, AllAt R vs xs → AllAt R' vs xs
  | _, _, .nil => .nil
  | _, _, .cons h t => .cons (f _ _ h) (AllAt.map f t)
theorem AllAt.length {α : Type} {R : V → α → Prop} : ∀ {vs : List V} {xs : List α}, AllAt R vs xs → vs.length = xs.length
  | _, _, .nil => rfl
  | _, _, .cons _ t => by rw [List.length_cons, List.length_cons, t.length]
theorem AllAt.get {α : Type} {R : V → α → Prop} : ∀ {vs : List V} {xs : List α} {i : Nat} {v : V}, AllAt R vs xs → vs[i]? = some v → ∃ x, xs[i]? = some x ∧ R v x
  | _, _, 0, v, .cons h t, e => by cases e; exact ⟨_, rfl, h⟩
  | _, _, i + 1, v, .cons h t, e => AllAt.get t (i := i) e
theorem AllAt.app {α : Type} {R : V → α → Prop} : ∀ {vs ws : List V} {xs ys : List α}, AllAt R vs xs → AllAt R ws ys → AllAt R (vs ++ ws) (xs ++ ys)
  | _, _, _, _, .nil, h => h
  | _, _, _, _, .cons a t, h => .cons a (AllAt.app t h)
theorem AtS.same {ss : List S3} (h : AtS K H v ss) (s : Same H H') : AtS K H' v ss := by
  obtain ⟨a, vs, rfl, h1, h2⟩ := h
  exact ⟨a, vs, rfl, seT s h1, h2.map fun _ _ z => z.same s⟩
theorem AtP.same {ps : List Pt} (h : AtP K H v ps) (s : Same H H') : AtP K H' v ps := by
  obtain ⟨a, vs, rfl, h1, h2⟩ := h
  exact ⟨a, vs, rfl, seT s h1, h2.map fun _ _ z => z.same s⟩
def d3 (s : S3) : PyData := .tuple [.int s.1, .int s.2.1, .int s.2.2]
theorem AtS.dp {ss : List S3} (h : AtS K H v ss) : Dp K H v (.tuple (ss.map d3)) := by
  obtain ⟨a, vs, rfl, h1, h2⟩ := h
  refine .tup h1 ?_
  clear h1
  induction h2 with
  | nil => exact .nil
  | cons h t ih =>
    obtain ⟨b, rfl, h⟩ := h
    exact .cons (.tup h (.cons (.int _) (.cons (.int _) (.cons (.int _) .nil)))) ih
theorem AtL.rev {l : Ln} {a : Addr} {xs : List V} (h : AtL K H (.ref a) l) (h2 : SqT K H a xs) : True := trivial
end
theorem bd_less {p q : Pt} (h1 : BdC p) (h2 : BdC q) : BdP (less p q) := by
  unfold BdP BdC less at *
  simp only at *
  omega
theorem BdL.rev {l : Ln} (h : BdL l) : BdL (rev l) := ⟨h.2, h.1⟩
/-! ### promises of the program's defs -/
def spStep (K : PySem.W.Frag) : Sp := fun vs H Q _ => ∃ v l, vs = [v] ∧ AtL K H v l ∧ ∀ w H', Same H H' → At2 K H' w (less l.2 l.1) → Q w H'
def spTurn (K : PySem.W.Frag) : Sp := fun vs H Q _ => ∃ u v p q, vs = [u, v] ∧ At2 K H u p ∧ At2 K H v q ∧ BdP p ∧ Q (.int (trn p q)) H
def spSide (K : PySem.W.Frag) : Sp := fun vs H Q _ => ∃ u v l p, vs = [u, v] ∧ AtL K H u l ∧ At2 K H v p ∧ BdL l ∧ ∀ H', Same H H' → Q (.int (trn (less l.2 l.1) (less p l.1))) H'
def spSpotAt (K : PySem.W.Frag) : Sp := fun vs H Q _ => ∃ v l k m, vs = [v, .int k, .int m] ∧ AtL K H v l ∧ BdL l ∧ m ≠ 0 ∧ m.natAbs < 2 ^ 200 ∧
  ∀ w H', Same H H' → At3 K H' w (sp3 (m * l.1.1 + k * (l.2.1 - l.1.1)) (m * l.1.2 + k * (l.2.2 - l.1.2)) m) → Q w H'
def spTwo (K : PySem.W.Frag) (f : Ln → Ln → List S3) (C : Ln → Ln → Prop) : Sp := fun vs H Q _ => ∃ u v l r, vs = [u, v] ∧ AtL K H u l ∧ AtL K H v r ∧ BdL l ∧ BdL r ∧ C l r ∧
  ∀ w H', Same H H' → AtS K H' w (f l r) → Q w H'
theorem trn_lt {p q : Pt} (hp : BdP p) (hq : BdP q) : (trn p q).natAbs < 2 ^ 122 := by
  unfold BdP at *
  unfold trn
  have b : ∀ a b : Int, -(2 ^ 60) < a → a < 2 ^ 60 → -(2 ^ 60) < b → b < 2 ^ 60 → (a * b).natAbs < 2 ^ 120 := fun a b h1 h2 h3 h4 => wide_lt (a := 60) (b := 60) (by omega) (by omega)
  have b1 := b p.1 q.2 (by omega) (by omega) (by omega) (by omega)
  have b2 := b p.2 q.1 (by omega) (by omega) (by omega) (by omega)
  omega

section
variable {K : PySem.W.Frag} {H H' : Hp} {v : V} {d l : Addr}
theorem stT {a : Addr} {xs : List V} (S : Step d l H H') (D : Deck H d l) (h : SqT K H a xs) : SqT K H' a xs := by
  obtain ⟨ns, s, c, h1, h2, h3⟩ := D.ex
  rcases h with (h | ⟨o, h⟩) | h
  · exact .inl (.inl (S.tupH D h))
  · exact .inl (.inr ⟨o, S.at (ne_of h h1 (by intro z; cases z)) (ne_of h h2 (by intro z; cases z)) h⟩)
  · exact .inr h
theorem At2.step {p : Pt} (h : At2 K H v p) (S : Step d l H H') (D : Deck H d l) : At2 K H' v p := by
  obtain ⟨a, rfl, h⟩ := h
  exact ⟨a, rfl, stT S D h⟩
theorem AtL.step {r : Ln} (h : AtL K H v r) (S : Step d l H H') (D : Deck H d l) : AtL K H' v r := by
  obtain ⟨a, u, w, rfl, h1, h2, h3⟩ := h
  exact ⟨a, u, w, rfl, stT S D h1, h2.step S D, h3.step S D⟩
end
def BdN (B : Int) (p : Pt) : Prop := (-B ≤ p.1 ∧ p.1 ≤ B) ∧ (-B ≤ p.2 ∧ p.2 ≤ B)
def spUnlike (K : PySem.W.Frag) : Sp := fun vs H Q _ => ∃ u v p q, vs = [u, v] ∧ At2 K H u p ∧ At2 K H v q ∧
  ∀ w H' l, Same H H' → AtL K H' w l → l.1 = p → l.1 ≠ l.2 → (l.2 = q ∨ l.2 = (p.1 + 1, p.2)) → Q w H'
def spLess (K : PySem.W.Frag) : Sp := fun vs H Q _ => ∃ u v p q, vs = [u, v] ∧ At2 K H u p ∧ At2 K H v q ∧ ∀ w H', Same H H' → At2 K H' w (less p q) → Q w H'
def spLowest (K : PySem.W.Frag) : Sp := fun vs H Q _ => ∃ n m d : Int, vs = [.int n, .int m, .int d] ∧ 0 < d ∧ d.natAbs < 2 ^ 200 ∧ ∀ w H', Same H H' → At3 K H' w (sp3 n m d) → Q w H'
def spRight (K : PySem.W.Frag) : Sp := fun vs H Q _ => ∃ u v l r, vs = [u, v] ∧ AtL K H u l ∧ AtL K H v r ∧ BdL l ∧ BdL r ∧ l.1 ≠ l.2 ∧ r.1 ≠ r.2 ∧ ∀ H', Same H H' → Q (.bl true) H'
theorem gcd_fmod (a b : Int) (h : b ≠ 0) : Int.gcd b (a.fmod b) = Int.gcd a b := by
  have e : a.fmod b = a - b * a.fdiv b := Int.fmod_def a b
  rw [e, Int.gcd_comm a b, Int.sub_eq_add_neg, ← Int.mul_neg, Int.gcd_add_mul_left_right]
theorem fmod_small (a b : Int) (h : b ≠ 0) : (a.fmod b).natAbs < b.natAbs := by
  rcases Int.lt_or_gt_of_ne h with hb | hb
  · have e1 : (-a).fmod (-b) = -(a.fmod b) := Int.neg_fmod_neg ..
    have h1 := Int.fmod_nonneg_of_pos (-a) (show 0 < -b by omega)
    have h2 := Int.fmod_lt_of_pos (-a) (show 0 < -b by omega)
    omega
  · have h1 := Int.fmod_nonneg_of_pos a hb
    have h2 := Int.fmod_lt_of_pos a hb
    omega

/-! ### what a comprehension picks of two points -/
structure Sel (K : PySem.W.Frag) (H0 : Hp) (pts : List Pt) (r : Ln) (i : Nat) (ks : List (Addr × List Int)) : Prop where
  tup : ∀ q ∈ ks, SqT K H0 q.1 (q.2.map V.int) ∧ q.2.length = 2
  len : ks.length ≤ i
  mem : ∀ x, (∃ q ∈ ks, pr q = x) ↔ ∃ j, j < i ∧ pts[j]? = some x ∧ within x r
section
variable {K : PySem.W.Frag} {H0 : Hp} {pts : List Pt} {r : Ln} {i : Nat} {ks : List (Addr × List Int)} {pt : Pt} {c : Addr}
theorem Sel.nil : Sel K H0 pts r 0 [] := ⟨fun q h => (nomatch h), Nat.le_refl _, fun x => ⟨fun ⟨q, h, _⟩ => (nomatch h), fun ⟨j, h, _⟩ => absurd h (Nat.not_lt_zero _)⟩⟩
theorem Sel.keep (S : Sel K H0 pts r i ks) (h : pts[i]? = some pt) (w : within pt r) (hc : SqT K H0 c [.int pt.1, .int pt.2]) :
    Sel K H0 pts r (i + 1) (ks ++ [(c, [pt.1, pt.2])]) := by
  refine ⟨fun q hq => ?_, by rw [List.length_append]; exact Nat.add_le_add_right S.len 1, fun x => ⟨?_, ?_⟩⟩
  · rcases List.mem_append.mp hq with z | z
    · exact S.tup q z
    · rw [List.mem_singleton.mp z]; exact ⟨hc, rfl⟩
  · rintro ⟨q, hq, e⟩
    rcases List.mem_append.mp hq with z | z
    · obtain ⟨j, a, b⟩ := (S.mem x).mp ⟨q, z, e⟩
      exact ⟨j, by omega, b⟩
    · rw [List.mem_singleton.mp z] at e
      subst e
      exact ⟨i, by omega, h, w⟩
  · rintro ⟨j, hj, a, b⟩
    by_cases e : j = i
    · subst e
      rw [h] at a
      cases a
      exact ⟨_, List.mem_append.mpr (.inr (List.mem_singleton.mpr rfl)), rfl⟩
    · obtain ⟨q, z, e2⟩ := (S.mem x).mpr ⟨j, by omega, a, b⟩
      exact ⟨q, List.mem_append.mpr (.inl z), e2⟩
theorem Sel.drop (S : Sel K H0 pts r i ks) (h : pts[i]? = some pt) (w : ¬ within pt r) : Sel K H0 pts r (i + 1) ks := by
  refine ⟨S.tup, Nat.le_succ_of_le S.len, fun x => ⟨fun z => ?_, ?_⟩⟩
  · obtain ⟨j, a, b⟩ := (S.mem x).mp z
    exact ⟨j, by omega, b⟩
  · rintro ⟨j, hj, a, b⟩
    by_cases e : j = i
    · subst e
      rw [h] at a
      cases a
      exact absurd b w
    · exact (S.mem x).mpr ⟨j, by omega, a, b⟩
theorem Sel.two {p q : Pt} (S : Sel K H0 [p, q] r 2 ks) (x : Pt) : (∃ q ∈ ks, pr q = x) ↔ (x = p ∨ x = q) ∧ within x r := by
  rw [S.mem x]
  constructor
  · rintro ⟨j, hj, a, b⟩
    match j, hj, a with
    | 0, _, a => cases a; exact ⟨.inl rfl, b⟩
    | 1, _, a => cases a; exact ⟨.inr rfl, b⟩
  · rintro ⟨a | a, b⟩
    · exact ⟨0, by omega, by rw [a]; rfl, b⟩
    · exact ⟨1, by omega, by rw [a]; rfl, b⟩
end
theorem pr_ints {q : Addr × List Int} (h : q.2.length = 2) : q.2.map V.int = [.int (pr q).1, .int (pr q).2] := by
  rw [pr_of h]
  rfl
theorem nodup_pr {L : List (Addr × List Int)} (h : ∀ q ∈ L, q.2.length = 2) (nd : (L.map (·.2)).Nodup) : (L.map pr).Nodup := by
  have e : ∀ l : List (Addr × List Int), (∀ q ∈ l, q.2.length = 2) → l.map (·.2) = (l.map pr).map fun p : Pt => [p.1, p.2] := by
    intro l
    induction l with
    | nil => intro _; rfl
    | cons q l ih =>
      intro h
      rw [List.map_cons, List.map_cons, List.map_cons, ih fun r hr => h r (List.mem_cons_of_mem _ hr), pr_of (h q List.mem_cons_self)]
  rw [e L h] at nd
  exact List.Pairwise.of_map _ (fun _ _ hne z => hne (by rw [z])) nd
theorem cut_first (xs : List V) : cutV xs none (some 1) = xs.take 1 := by
  unfold cutV
  rw [HT.sIx_none, show HT.sIx xs.length xs.length (some 1) = min 1 xs.length from HT.sIx_nat _ _ 1, List.drop_zero, Nat.sub_zero]
  cases xs with
  | nil => rfl
  | cons x r => rw [List.length_cons, Nat.min_eq_left (by omega)]
theorem cut_rest (xs : List V) : cutV xs (some 1) none = xs.drop 1 := by
  unfold cutV
  rw [HT.sIx_none, show HT.sIx xs.length 0 (some 1) = min 1 xs.length from HT.sIx_nat _ _ 1]
  cases xs with
  | nil => rfl
  | cons x r =>
    rw [List.length_cons, Nat.min_eq_left (by omega)]
    show List.take (r.length + 1 - 1) r = r
    rw [Nat.add_sub_cancel, List.take_length]
theorem cut_last (xs : List V) : cutV xs (some (-1)) none = xs.drop (xs.length - 1) := by
  unfold cutV
  have e : HT.sIx xs.length 0 (some (-1)) = xs.length - 1 := by
    show (if (-1 : Int) < 0 then ((-1 : Int) + (xs.length : Int)).toNat else min (-1 : Int).toNat xs.length) = _
    rw [if_pos (by decide)]
    omega
  rw [HT.sIx_none, e]
  exact List.take_of_length_le (by rw [List.length_drop]; omega)

/-! ### the same rules within a comprehension, the written part named -/
section
variable {X : Cx} {K : PySem.W.Frag}
theorem op_le2k (hK : X.K = K) (hu : X.A.units + 64 < cLine) : OpR X (compareOp .LtE) (rCmp2 K fun p q => !llt q p) := hK ▸ op_le2 hu
theorem op_gt2k (hK : X.K = K) (hu : X.A.units + 64 < cLine) : OpR X (compareOp .Gt) (rCmp2 K fun p q => llt q p) := hK ▸ op_gt2 hu
theorem cr_min1k (hK : X.K = K) (hc : X.calm = true) (hu : X.A.units + 64 < cLine) : CallR X (.builtin "min") (rBest1 K mn) := hK ▸ cr_min1 hc hu
theorem cr_max1k (hK : X.K = K) (hc : X.calm = true) (hu : X.A.units + 64 < cLine) : CallR X (.builtin "max") (rBest1 K mx) := hK ▸ cr_max1 hc hu
theorem op_catTNk (hK : X.K = K) : OpR X (binaryOp .Add) (rCatTN K) := hK ▸ op_catTN
theorem ix_tupk (hK : X.K = K) : IxR X (rIxT K) := hK ▸ ix_tup
theorem ix_listk (hK : X.K = K) : IxR X (rIxL K) := hK ▸ ix_list
theorem op_neDk (hK : X.K = K) (hu : X.A.units + 64 < cLine) : OpR X (compareOp .NotEq) (rNeD K) := hK ▸ op_neD hu
theorem op_eqDk (hK : X.K = K) (hu : X.A.units + 64 < cLine) : OpR X (compareOp .Eq) (rEqD K) := hK ▸ op_eqD hu
end

theorem acc3 {K : PySem.W.Frag} {H5 H' H7 : Hp} {pD p7 : Addr} {ws : List V} {ss : List S3} {t : S3} (nD : H5 pD = none) (t1 : Same H5 H') (e : H' pD = some (.lst ws))
    (all : AllAt (At3 K H') ws ss) (s7 : Same H' H7) (n7 : H' p7 = none) (g7 : H7 p7 = some (.tup [.int t.1, .int t.2.1, .int t.2.2])) (len : ss.length ≤ 900) :
    ∃ acc, H7 pD = some (.lst acc) ∧ acc.length < sizeLine ∧ (Same H5 (upd H7 pD (.lst (acc ++ [.ref p7]))) ∧
      ∃ ws', (upd H7 pD (.lst (acc ++ [.ref p7]))) pD = some (.lst ws') ∧ AllAt (At3 K (upd H7 pD (.lst (acc ++ [.ref p7])))) ws' (ss ++ [t])) := by
  have npD : pD ≠ p7 := ne_of_none e n7
  have k7 := s7 _ _ e
  have lw := all.length
  have sT : ∀ {o : HO} {b : Addr} {xs : List V}, SqT K H7 b xs → SqT K (upd H7 pD o) b xs := fun {o b xs} z => by
    rcases z with (z | ⟨oo, z⟩) | z
    · exact .inl (.inl (by rw [upd_ne (ne_of z k7 (by intro z; cases z))]; exact z))
    · exact .inl (.inr ⟨oo, by rw [upd_ne (ne_of z k7 (by intro z; cases z))]; exact z⟩)
    · exact .inr z
  refine ⟨ws, k7, small1000 (by omega), fun b o z => ?_, ws ++ [.ref p7], upd_same, ?_⟩
  · rw [upd_ne (ne_of_none z nD)]
    exact (t1.trans s7) _ _ z
  · refine AllAt.app (all.map fun v s h => ?_) (.cons ⟨p7, rfl, .inl (.inl ?_)⟩ .nil)
    · obtain ⟨b, rfl, h9⟩ := h.same s7
      exact ⟨b, rfl, sT h9⟩
    · rw [upd_ne npD.symm]
      exact g7
end Cl

namespace Cl
open PySem PySem.Spec PyProof.Rows L2
/-! ### what two lines have in common is shown shortly -/
def ok3 (s : S3) : Prop := okI s.1 ∧ okI s.2.1 ∧ okI s.2.2
theorem okI.sh {i : Int} (h : okI i) : i.natAbs.log2 < 1920 := by have := h.log; omega
theorem fine3 : ∀ {ss : List S3}, ss.length ≤ 2 → (∀ s ∈ ss, ok3 s) → Fine (.tuple (ss.map d3))
  | [], _, _ => by constructor <;> decide
  | [a], _, h => by
    obtain ⟨h1, h2, h3⟩ := h a (by simp)
    have a1 := h1.len
    have a2 := h2.len
    have a3 := h3.len
    have b1 := h1.sh
    have b2 := h2.sh
    have b3 := h3.sh
    constructor
    · simp [d3, PyData.leavesShort, PyData.leavesShortAll, a1, a2, a3]
    · simp [d3, PyData.showable, PyData.showableAll, b1, b2, b3]
    · rfl
    · simp [d3, PyData.depth, PyData.depthAll]
    · simp [d3, PyData.bulk, PyData.bulkAll]
  | [a, b], _, h => by
    obtain ⟨h1, h2, h3⟩ := h a (by simp)
    obtain ⟨g1, g2, g3⟩ := h b (by simp)
    have a1 := h1.len
    have a2 := h2.len
    have a3 := h3.len
    have b1 := h1.sh
    have b2 := h2.sh
    have b3 := h3.sh
    have c1 := g1.len
    have c2 := g2.len
    have c3 := g3.len
    have e1 := g1.sh
    have e2 := g2.sh
    have e3 := g3.sh
    constructor
    · simp [d3, PyData.leavesShort, PyData.leavesShortAll, a1, a2, a3, c1, c2, c3]
    · simp [d3, PyData.showable, PyData.showableAll, b1, b2, b3, e1, e2, e3]
    · rfl
    · simp [d3, PyData.depth, PyData.depthAll]
    · simp [d3, PyData.bulk, PyData.bulkAll]
theorem BdC.or {p q r : Pt} (hp : BdC p) (hq : BdC q) (h : r = p ∨ r = q) : BdC r := by rcases h with rfl | rfl <;> assumption
theorem ok_one3 {p : Pt} (h : BdC p) : ok3 (one3 p) := by
  unfold BdC at h
  exact ⟨okI.of (show -(2 ^ 189) < p.1 by omega) (show p.1 < 2 ^ 189 by omega), okI.of (show -(2 ^ 189) < p.2 by omega) (show p.2 < 2 ^ 189 by omega), okI.of (show -(2 ^ 189) < (1 : Int) by omega) (show (1 : Int) < 2 ^ 189 by omega)⟩
theorem okI_div {n p : Int} (h : n.natAbs < 2 ^ 190) : okI (n / p) := Nat.lt_of_le_of_lt (Int.natAbs_ediv_le_natAbs n p) h
theorem fine_cmn {l r : Ln} (bl : BdL l) (br : BdL r) : Fine (.tuple ((cmn l r).map d3)) := by
  have b1 := bd_less bl.2 bl.1
  have b2 := bd_less br.2 br.1
  have b3 := bd_less br.1 bl.1
  have t1 := trn_lt b1 b2
  have t2 := trn_lt b3 b2
  have kM : (klm l r).2.2.natAbs < 2 ^ 122 := by
    show (trn (less l.2 l.1) (less r.2 r.1) * kfs l r).natAbs < 2 ^ 122
    unfold kfs
    split <;> omega
  have kN : (klm l r).1.natAbs < 2 ^ 122 := by
    show (trn (less r.1 l.1) (less r.2 r.1) * kfs l r).natAbs < 2 ^ 122
    unfold kfs
    split <;> omega
  have hlo : BdC (lo l r) := by
    obtain ⟨c, _⟩ := mx_or (mn l.1 l.2) (mn r.1 r.2)
    exact BdC.or (BdC.or bl.1 bl.2 (mn_or l.1 l.2).1) (BdC.or br.1 br.2 (mn_or r.1 r.2).1) c
  have hhi : BdC (hi l r) := by
    obtain ⟨c, _⟩ := mn_or (mx l.1 l.2) (mx r.1 r.2)
    exact BdC.or (BdC.or bl.1 bl.2 (mx_or l.1 l.2).1) (BdC.or br.1 br.2 (mx_or r.1 r.2).1) c
  unfold cmn
  split
  · unfold acr
    simp only
    split
    · refine fine3 (by simp) fun s hs => ?_
      rw [List.mem_singleton.mp hs]
      obtain ⟨⟨x1, x2⟩, x3, x4⟩ := bl.1
      unfold BdP less at b1
      obtain ⟨⟨y1, y2⟩, y3, y4⟩ := b1
      simp only at y1 y2 y3 y4
      have m1 := wide_lt (i := (klm l r).2.2) (j := l.1.1) (a := 122) (b := 40) kM (by omega)
      have m2 := wide_lt (i := (klm l r).2.2) (j := l.1.2) (a := 122) (b := 40) kM (by omega)
      have m3 := wide_lt (i := (klm l r).1) (j := l.2.1 - l.1.1) (a := 122) (b := 60) kN (by omega)
      have m4 := wide_lt (i := (klm l r).1) (j := l.2.2 - l.1.2) (a := 122) (b := 60) kN (by omega)
      exact ⟨okI_div (by omega), okI_div (by omega), okI_div (by omega)⟩
    · exact fine3 (by simp) fun s hs => nomatch hs
  · split
    · exact fine3 (by simp) fun s hs => nomatch hs
    · unfold alo
      split
      · exact fine3 (by simp) fun s hs => nomatch hs
      · split
        · refine fine3 (by simp) fun s hs => ?_
          rw [List.mem_singleton.mp hs]
          exact ok_one3 hlo
        · refine fine3 (by simp) fun s hs => ?_
          rcases List.mem_cons.mp hs with rfl | hs
          · exact ok_one3 hlo
          · rw [List.mem_singleton.mp hs]
            exact ok_one3 hhi

/-! ### a list that is written to: tuples and the deck stay -/
section
variable {K : PySem.W.Frag} {H : Hp} {M d l : Addr} {xs : List V} {o : HO} {v : V}
theorem updT {b : Addr} {ys : List V} (e : H M = some (.lst xs)) (h : SqT K H b ys) : SqT K (upd H M o) b ys := by
  rcases h with (z | ⟨oo, z⟩) | z
  · exact .inl (.inl (by rw [upd_ne (ne_of z e (by intro z; cases z))]; exact z))
  · exact .inl (.inr ⟨oo, by rw [upd_ne (ne_of z e (by intro z; cases z))]; exact z⟩)
  · exact .inr z
theorem At2.upd {p : Pt} (h : At2 K H v p) (e : H M = some (.lst xs)) : At2 K (upd H M o) v p := by
  obtain ⟨a, rfl, h⟩ := h
  exact ⟨a, rfl, updT e h⟩
theorem AtL.upd {r : Ln} (h : AtL K H v r) (e : H M = some (.lst xs)) : AtL K (L2.upd H M o) v r := by
  obtain ⟨a, u, w, rfl, h1, h2, h3⟩ := h
  exact ⟨a, u, w, rfl, updT e h1, At2.upd h2 e, At2.upd h3 e⟩
theorem Deck.upd (D : Deck H d l) (h1 : M ≠ d) (h2 : M ≠ l) : Deck (L2.upd H M o) d l := by
  obtain ⟨ns, s, c, e1, e2, e3⟩ := D.ex
  exact ⟨D.ne, ns, s, c, by rw [upd_ne h1.symm]; exact e1, by rw [upd_ne h2.symm]; exact e2, e3⟩
end
/-! ### lines drawn -/
def GoodLn (B : Int) (r : Ln) : Prop := BdN B r.1 ∧ BdN B r.2 ∧ r.1 ≠ r.2
def spPoint (K : PySem.W.Frag) : Sp := fun vs H Q _ => ∃ (d l : Addr) (g : Int), vs = [.ref d, .int g] ∧ 0 < g ∧ g ≤ 10 ∧ Deck H d l ∧
  ∀ w H' p, Step d l H H' → At2 K H' w p → BdN 100 p → Q w H'
def spBeside (K : PySem.W.Frag) : Sp := fun vs H Q _ => ∃ (d l : Addr) (v u w : V) (r : Ln) (p q : Pt), vs = [.ref d, v, u, w] ∧ Deck H d l ∧ AtL K H v r ∧ GoodLn 200 r ∧
  At2 K H u p ∧ BdN 100 p ∧ At2 K H w q ∧ BdN 100 q ∧ ∀ w H' r', Step d l H H' → AtL K H' w r' → GoodLn 3000 r' → Q w H'
def spLine (K : PySem.W.Frag) : Sp := fun vs H Q _ => ∃ (d l : Addr) (g : Int) (L : Addr) (ws : List V) (ls : List Ln), vs = [.ref d, .int g, .ref L] ∧ 0 < g ∧ g ≤ 10 ∧ Deck H d l ∧
  L ≠ d ∧ L ≠ l ∧ H L = some (.lst ws) ∧ AllAt (AtL K H) ws ls ∧ ls.length ≤ 10 ∧ (∀ r ∈ ls, GoodLn 3000 r) ∧
  ∀ w H' r', Step d l H H' → AtL K H' w r' → GoodLn 3000 r' → Q w H'
def AtT (K : PySem.W.Frag) (H : Hp) (v : V) (ls : List Ln) : Prop := ∃ a vs, v = .ref a ∧ SqT K H a vs ∧ AllAt (AtL K H) vs ls
def spLines (K : PySem.W.Frag) (n : Nat) : Sp := fun vs H Q _ => ∃ (d l : Addr) (g : Int), vs = [.ref d, .int g, .int n] ∧ 0 < g ∧ g ≤ 10 ∧ Deck H d l ∧
  ∀ w H' ls, Step d l H H' → AtT K H' w ls → ls.length = n → (∀ r ∈ ls, BdL r ∧ r.1 ≠ r.2) → Q w H'
def dl (r : Ln) : PyData := .tuple [pd r.1, pd r.2]
theorem AtL.dp {K : PySem.W.Frag} {H : Hp} {v : V} {r : Ln} (h : AtL K H v r) : Dp K H v (dl r) := by
  obtain ⟨a, u, w, rfl, h1, h2, h3⟩ := h
  exact .tup h1 (.cons h2.dp (.cons h3.dp .nil))
theorem lines_dp {K : PySem.W.Frag} {H : Hp} : ∀ {ws : List V} {ls : List Ln}, AllAt (AtL K H) ws ls → DpAll K H ws (ls.map dl)
  | _, _, .nil => .nil
  | _, _, .cons h t => .cons h.dp (lines_dp t)
theorem shapedLines (ls : List Ln) : SeqAt.shaped (.list (ls.map dl)) = true := by
  have h1 : ∀ ls : List Ln, PyData.canLayAll0 (ls.map dl) = true := by
    intro ls
    induction ls with
    | nil => rfl
    | cons n r ih => simp [PyData.canLayAll0, PyData.canLay0, dl, pd, ih]
  have h2 : ∀ ls : List Ln, PyData.depthAll (ls.map dl) ≤ 2 := by
    intro ls
    induction ls with
    | nil => decide
    | cons n r ih =>
      simp only [List.map_cons, PyData.depthAll]
      have : (dl n).depth = 2 := by simp [dl, pd, PyData.depth, PyData.depthAll]
      omega
  have h3 := h2 ls
  simp [SeqAt.shaped, PyData.canLay0, PyData.depth, h1]
  omega
theorem eqvNilL (ls : List Ln) : PyData.eqv (.list (ls.map dl)) (.list []) = ls.isEmpty := by
  cases ls <;> simp [PyData.eqv, PyData.eqvAll]
theorem AllAt.three {α : Type} {R : V → α → Prop} {vs : List V} {xs : List α} (h : AllAt R vs xs) (l : xs.length = 3) :
    ∃ v0 v1 v2 x0 x1 x2, vs = [v0, v1, v2] ∧ xs = [x0, x1, x2] ∧ R v0 x0 ∧ R v1 x1 ∧ R v2 x2 := by
  cases h with
  | nil => cases l
  | cons h0 h =>
    cases h with
    | nil => cases l
    | cons h1 h =>
      cases h with
      | nil => cases l
      | cons h2 h =>
        cases h with
        | nil => exact ⟨_, _, _, _, _, _, rfl, rfl, h0, h1, h2⟩
        | cons _ _ => simp at l
end Cl

namespace Cl
open PySem PySem.Spec PyProof.Rows L2
/-! ### what part of a line lies in a cell -/
abbrev Sh := Int × Int
def later (a b : Sh) : Sh := if a.1 * b.2 < b.1 * a.2 then b else a
def soon (a b : Sh) : Sh := if b.1 * a.2 < a.1 * b.2 then b else a
theorem frac_le {a b c d e f : Int} (h1 : a * d ≤ c * b) (h2 : c * f ≤ e * d) (hb : 0 < b) (hd : 0 < d) (hf : 0 < f) : a * f ≤ e * b := by
  refine Int.le_of_mul_le_mul_right (a := d) ?_ hd
  have k1 := Int.mul_le_mul_of_nonneg_right h1 (Int.le_of_lt hf)
  have k2 := Int.mul_le_mul_of_nonneg_right h2 (Int.le_of_lt hb)
  grind
theorem later_le {a b : Sh} {p q : Int} (ha : 0 < a.2) (hb : 0 < b.2) (hq : 0 < q) :
    ((later a b).1 * q ≤ p * (later a b).2) ↔ (a.1 * q ≤ p * a.2 ∧ b.1 * q ≤ p * b.2) := by
  unfold later
  split
  · rename_i h
    exact ⟨fun z => ⟨frac_le (Int.le_of_lt h) z ha hb hq, z⟩, fun z => z.2⟩
  · rename_i h
    exact ⟨fun z => ⟨z, frac_le (Int.not_lt.mp h) z hb ha hq⟩, fun z => z.1⟩
theorem soon_le {a b : Sh} {p q : Int} (ha : 0 < a.2) (hb : 0 < b.2) (hq : 0 < q) :
    (p * (soon a b).2 ≤ (soon a b).1 * q) ↔ (p * a.2 ≤ a.1 * q ∧ p * b.2 ≤ b.1 * q) := by
  unfold soon
  split
  · rename_i h
    exact ⟨fun z => ⟨frac_le z (Int.le_of_lt h) hq hb ha, z⟩, fun z => z.2⟩
  · rename_i h
    exact ⟨fun z => ⟨z, frac_le z (Int.not_lt.mp h) hq ha hb⟩, fun z => z.1⟩
theorem later_pos {a b : Sh} (ha : 0 < a.2) (hb : 0 < b.2) : 0 < (later a b).2 := by unfold later; split <;> assumption
theorem soon_pos {a b : Sh} (ha : 0 < a.2) (hb : 0 < b.2) : 0 < (soon a b).2 := by unfold soon; split <;> assumption
/-- the point at the share p of q lies in the cell's row or column, the greater side not with it -/
def HO1 (g start step num p q : Int) : Prop := (2 * num - 1) * g * q ≤ 2 * (start * q + step * p) ∧ 2 * (start * q + step * p) < (2 * num + 1) * g * q
def CL1 (g start step num p q : Int) : Prop := (2 * num - 1) * g * q ≤ 2 * (start * q + step * p) ∧ 2 * (start * q + step * p) ≤ (2 * num + 1) * g * q
def inc (f l : Sh) (step near far : Int) : Option (Sh × Sh) :=
  if step = 0 then (if near > 0 ∨ far < 0 then none else some (f, l))
  else if step < 0 then some (later f (-far, 2 * -step), soon l (-near, 2 * -step)) else some (later f (near, 2 * step), soon l (far, 2 * step))
theorem cl1_iff (g start step num p q : Int) : CL1 g start step num p q ↔ (((2 * num - 1) * g - 2 * start) * q ≤ 2 * step * p ∧ 2 * step * p ≤ ((2 * num + 1) * g - 2 * start) * q) := by
  unfold CL1
  constructor <;> intro h <;> constructor <;> grind
theorem inc_none {g start step num : Int} {f l : Sh} (h : inc f l step ((2 * num - 1) * g - 2 * start) ((2 * num + 1) * g - 2 * start) = none) {p q : Int} (hq : 0 < q) : ¬ CL1 g start step num p q := by
  unfold inc at h
  split at h
  · rename_i hs
    split at h
    · rename_i hz
      rw [cl1_iff, hs]
      intro ⟨k1, k2⟩
      rcases hz with z | z
      · have := Int.mul_pos z hq
        omega
      · have := Int.mul_pos (show 0 < -((2 * num + 1) * g - 2 * start) by omega) hq
        rw [Int.neg_mul] at this
        omega
    · cases h
  · split at h <;> cases h
theorem inc_some {g start step num : Int} {f l f' l' : Sh} (hf : 0 < f.2) (hl : 0 < l.2) (h : inc f l step ((2 * num - 1) * g - 2 * start) ((2 * num + 1) * g - 2 * start) = some (f', l')) :
    0 < f'.2 ∧ 0 < l'.2 ∧ ∀ p q : Int, 0 < q → ((f.1 * q ≤ p * f.2 ∧ p * l.2 ≤ l.1 * q ∧ CL1 g start step num p q) ↔ (f'.1 * q ≤ p * f'.2 ∧ p * l'.2 ≤ l'.1 * q)) := by
  unfold inc at h
  split at h
  · rename_i hs
    split at h
    · cases h
    · rename_i hz
      cases h
      refine ⟨hf, hl, fun p q hq => ⟨fun z => ⟨z.1, z.2.1⟩, fun z => ⟨z.1, z.2, ?_⟩⟩⟩
      rw [cl1_iff, hs]
      have h1 : ((2 * num - 1) * g - 2 * start) ≤ 0 := by omega
      have h2 : 0 ≤ ((2 * num + 1) * g - 2 * start) := by omega
      have := Int.mul_le_mul_of_nonneg_right h1 (Int.le_of_lt hq)
      have := Int.mul_nonneg h2 (Int.le_of_lt hq)
      omega
  · rename_i hs
    split at h
    · rename_i hz
      cases h
      have h2 : (0 : Int) < 2 * -step := by omega
      refine ⟨later_pos hf h2, soon_pos hl h2, fun p q hq => ?_⟩
      rw [later_le hf h2 hq, soon_le hl h2 hq, cl1_iff]
      simp only
      constructor
      · intro ⟨a, b, c, d⟩
        refine ⟨⟨a, ?_⟩, b, ?_⟩ <;> grind
      · intro ⟨⟨a, c⟩, b, d⟩
        refine ⟨a, b, ?_, ?_⟩ <;> grind
    · rename_i hz
      cases h
      have h2 : (0 : Int) < 2 * step := by omega
      refine ⟨later_pos hf h2, soon_pos hl h2, fun p q hq => ?_⟩
      rw [later_le hf h2 hq, soon_le hl h2 hq, cl1_iff]
      simp only
      constructor
      · intro ⟨a, b, c, d⟩
        refine ⟨⟨a, ?_⟩, b, ?_⟩ <;> grind
      · intro ⟨⟨a, c⟩, b, d⟩
        refine ⟨a, b, ?_, ?_⟩ <;> grind
def HOc (g : Int) (r : Ln) (c : Pt) (p q : Int) : Prop := HO1 g r.1.1 (r.2.1 - r.1.1) c.1 p q ∧ HO1 g r.1.2 (r.2.2 - r.1.2) c.2 p q
def Meets (g : Int) (r : Ln) (c : Pt) : Prop := ∃ p q : Int, 0 < q ∧ 0 ≤ p ∧ p ≤ q ∧ HOc g r c p q
def rimL (g n : Int) : Int := (2 * n - 1) * g
def rimH (g n : Int) : Int := (2 * n + 1) * g
def sharesW (g : Int) (r : Ln) (c : Pt) : Option (Sh × Sh) :=
  match inc (0, 1) (1, 1) (r.2.1 - r.1.1) (rimL g c.1 - 2 * r.1.1) (rimH g c.1 - 2 * r.1.1) with
  | none => none
  | some (f, l) => match inc f l (r.2.2 - r.1.2) (rimL g c.2 - 2 * r.1.2) (rimH g c.2 - 2 * r.1.2) with
    | none => none
    | some (f, l) => if l.1 * f.2 < f.1 * l.2 then none else some (f, l)
def midP (f l : Sh) : Int := f.1 * l.2 + l.1 * f.2
def midQ (f l : Sh) : Int := 2 * f.2 * l.2
theorem sharesW_none {g : Int} {r : Ln} {c : Pt} (h : sharesW g r c = none) : ¬ Meets g r c := by
  intro ⟨p, q, hq, h0, h1, ha, hb⟩
  have ca : CL1 g r.1.1 (r.2.1 - r.1.1) c.1 p q := ⟨ha.1, Int.le_of_lt ha.2⟩
  have cb : CL1 g r.1.2 (r.2.2 - r.1.2) c.2 p q := ⟨hb.1, Int.le_of_lt hb.2⟩
  unfold sharesW rimL rimH at h
  split at h
  · exact inc_none (by assumption) hq ca
  · rename_i f l e1
    obtain ⟨f2, l2, k1⟩ := inc_some (by decide) (by decide) e1
    have k1 := (k1 p q hq).mp ⟨by simp only; omega, by simp only; omega, ca⟩
    split at h
    · exact inc_none (by assumption) hq cb
    · rename_i f' l' e2
      obtain ⟨f3, l3, k2⟩ := inc_some f2 l2 e2
      have k2 := (k2 p q hq).mp ⟨k1.1, k1.2, cb⟩
      split at h
      · rename_i z
        have := frac_le k2.1 k2.2 f3 hq l3
        omega
      · cases h
theorem sharesW_some {g : Int} {r : Ln} {c : Pt} {f l : Sh} (h : sharesW g r c = some (f, l)) :
    0 < f.2 ∧ 0 < l.2 ∧ f.1 * l.2 ≤ l.1 * f.2 ∧ ∀ p q : Int, 0 < q → ((0 ≤ p ∧ p ≤ q ∧ CL1 g r.1.1 (r.2.1 - r.1.1) c.1 p q ∧ CL1 g r.1.2 (r.2.2 - r.1.2) c.2 p q) ↔ (f.1 * q ≤ p * f.2 ∧ p * l.2 ≤ l.1 * q)) := by
  unfold sharesW rimL rimH at h
  split at h
  · cases h
  · rename_i f1 l1 e1
    obtain ⟨f2, l2, k1⟩ := inc_some (by decide) (by decide) e1
    split at h
    · cases h
    · rename_i f' l' e2
      obtain ⟨f3, l3, k2⟩ := inc_some f2 l2 e2
      split at h
      · cases h
      · rename_i z
        cases h
        refine ⟨f3, l3, by omega, fun p q hq => ⟨fun w => (k2 p q hq).mp ?_, fun w => ?_⟩⟩
        · have := (k1 p q hq).mp ⟨by simp only; omega, by simp only; omega, w.2.2.1⟩
          exact ⟨this.1, this.2, w.2.2.2⟩
        · obtain ⟨a, b, d⟩ := (k2 p q hq).mpr w
          obtain ⟨a', b', d'⟩ := (k1 p q hq).mpr ⟨a, b⟩
          simp only at a' b'
          exact ⟨by omega, by omega, d', d⟩
theorem at_end {a s p q z n F : Int} (w : 2 * (a * q + s * p) * n < F * q * n) (w2 : 2 * (a * n + s * z) * q = F * n * q) (k : s * (z * q) ≤ s * (p * n)) : False := by
  have e1 : 2 * (a * q + s * p) * n = 2 * (a * q * n) + 2 * (s * (p * n)) := by grind
  have e2 : 2 * (a * n + s * z) * q = 2 * (a * q * n) + 2 * (s * (z * q)) := by grind
  have e3 : F * n * q = F * q * n := Int.mul_right_comm ..
  omega
theorem ends_eq {a s k l m n F : Int} (e : 2 * (a * (2 * m * n) + s * (k * n + l * m)) = F * (2 * m * n)) (e1 : 2 * (a * m + s * k) * n ≤ F * m * n) (e2 : 2 * (a * n + s * l) * m ≤ F * n * m) :
    2 * (a * m + s * k) * n = F * m * n ∧ 2 * (a * n + s * l) * m = F * n * m := by
  have c1 : 2 * (a * (2 * m * n) + s * (k * n + l * m)) = 2 * (a * m + s * k) * n + 2 * (a * n + s * l) * m := by grind
  have c2 : F * (2 * m * n) = F * m * n + F * n * m := by grind
  omega
/-- the middle of the part within lies in the cell, or nothing does -/
theorem meets_mid {g : Int} {r : Ln} {c : Pt} {f l : Sh} (h : sharesW g r c = some (f, l)) : Meets g r c ↔ HOc g r c (midP f l) (midQ f l) := by
  obtain ⟨f2, l2, fl, k⟩ := sharesW_some h
  have hQ : 0 < midQ f l := Int.mul_pos (by omega) l2
  have hm : f.1 * midQ f l ≤ midP f l * f.2 ∧ midP f l * l.2 ≤ l.1 * midQ f l := by
    unfold midP midQ
    have a1 := Int.mul_le_mul_of_nonneg_right fl (Int.le_of_lt f2)
    have a2 := Int.mul_le_mul_of_nonneg_right fl (Int.le_of_lt l2)
    constructor <;> grind
  obtain ⟨m0, m1, ca, cb⟩ := (k _ _ hQ).mpr hm
  constructor
  · intro ⟨p, q, hq, h0, h1, ha, hb⟩
    have kt := (k p q hq).mp ⟨h0, h1, ⟨ha.1, Int.le_of_lt ha.2⟩, ⟨hb.1, Int.le_of_lt hb.2⟩⟩
    have kf := (k f.1 f.2 f2).mpr ⟨Int.le_refl _, fl⟩
    have kl := (k l.1 l.2 l2).mpr ⟨fl, Int.le_refl _⟩
    have one : ∀ start step num : Int, HO1 g start step num p q → CL1 g start step num f.1 f.2 → CL1 g start step num l.1 l.2 → CL1 g start step num (midP f l) (midQ f l) → HO1 g start step num (midP f l) (midQ f l) := by
      intro start step num ht hf hl hmid
      refine ⟨hmid.1, Int.lt_iff_le_and_ne.mpr ⟨hmid.2, fun e => ?_⟩⟩
      -- both ends lie at the greater side
      have e1 : 2 * (start * f.2 + step * f.1) * l.2 ≤ (2 * num + 1) * g * f.2 * l.2 := Int.mul_le_mul_of_nonneg_right hf.2 (Int.le_of_lt l2)
      have e2 : 2 * (start * l.2 + step * l.1) * f.2 ≤ (2 * num + 1) * g * l.2 * f.2 := Int.mul_le_mul_of_nonneg_right hl.2 (Int.le_of_lt f2)
      obtain ⟨s1, s2⟩ := ends_eq e e1 e2
      have t1 : 2 * (start * f.2 + step * f.1) = (2 * num + 1) * g * f.2 := Int.eq_of_mul_eq_mul_right (by omega) s1
      have t2 : 2 * (start * l.2 + step * l.1) = (2 * num + 1) * g * l.2 := Int.eq_of_mul_eq_mul_right (by omega) s2
      have ht2 := ht.2
      rcases Int.lt_or_le step 0 with hs | hs
      · have k3 := Int.mul_le_mul_of_nonneg_left kt.2 (show 0 ≤ -step by omega)
        rw [Int.neg_mul, Int.neg_mul] at k3
        exact at_end (Int.mul_lt_mul_of_pos_right ht2 l2) (by rw [t2]) (by omega)
      · have k3 := Int.mul_le_mul_of_nonneg_left kt.1 hs
        exact at_end (Int.mul_lt_mul_of_pos_right ht2 f2) (by rw [t1]) k3
    exact ⟨one _ _ _ ha kf.2.2.1 kl.2.2.1 ca, one _ _ _ hb kf.2.2.2 kl.2.2.2 cb⟩
  · intro w
    exact ⟨_, _, hQ, m0, m1, w⟩
end Cl

namespace Cl
open PySem PySem.Spec PyProof.Rows L2
/-! ### shares that are tried one by one -/
/-- of a rising list: what N parted by q is, is in it, or lies strictly between two neighbours -/
theorem consec {q N : Int} (hq : 0 < q) : ∀ (L : List Int), L.Pairwise (· ≤ ·) → (∃ a ∈ L, a * q ≤ N) → (∃ b ∈ L, N ≤ b * q) →
    (∃ a ∈ L, a * q = N) ∨ ∃ a b, (a, b) ∈ L.dropLast.zip L.tail ∧ a * q < N ∧ N < b * q ∧ ∀ c ∈ L, c ≤ a ∨ b ≤ c
  | [], _, ⟨_, h, _⟩, _ => nomatch h
  | [a], _, ⟨x, hx, h1⟩, ⟨y, hy, h2⟩ => by
    rw [List.mem_singleton] at hx hy
    subst hx
    subst hy
    exact .inl ⟨_, List.mem_singleton_self _, Int.le_antisymm h1 h2⟩
  | a :: b :: r, hp, ⟨x, hx, h1⟩, ⟨y, hy, h2⟩ => by
    have ha : ∀ {z : Int}, z ∈ b :: r → a ≤ z := fun h => List.rel_of_pairwise_cons hp h
    have hp2 := List.Pairwise.of_cons hp
    have hax : a * q ≤ N := by
      rcases List.mem_cons.mp hx with rfl | hx
      · exact h1
      · exact Int.le_trans (Int.mul_le_mul_of_nonneg_right (ha hx) (Int.le_of_lt hq)) h1
    rcases Int.lt_or_le N (b * q) with hb | hb
    · rcases Int.lt_or_eq_of_le hax with h | h
      · refine .inr ⟨a, b, ?_, h, hb, fun c hc => ?_⟩
        · simp
        · rcases List.mem_cons.mp hc with rfl | hc
          · exact .inl (Int.le_refl _)
          · rcases List.mem_cons.mp hc with rfl | hc
            · exact .inr (Int.le_refl _)
            · exact .inr (List.rel_of_pairwise_cons hp2 hc)
      · exact .inl ⟨a, List.mem_cons_self .., h⟩
    · have hy2 : ∃ y ∈ b :: r, N ≤ y * q := by
        rcases List.mem_cons.mp hy with rfl | hy
        · exact ⟨b, List.mem_cons_self .., Int.le_trans h2 (Int.mul_le_mul_of_nonneg_right (ha (List.mem_cons_self ..)) (Int.le_of_lt hq))⟩
        · exact ⟨y, hy, h2⟩
      rcases consec hq (b :: r) hp2 ⟨b, List.mem_cons_self .., hb⟩ hy2 with ⟨z, hz, e⟩ | ⟨u, v, hz, k1, k2, k3⟩
      · exact .inl ⟨z, List.mem_cons_of_mem _ hz, e⟩
      · refine .inr ⟨u, v, ?_, k1, k2, fun c hc => ?_⟩
        · show (u, v) ∈ (a :: (b :: r).dropLast).zip ((b :: r).tail.cons b)
          simp only [List.tail_cons, List.zip_cons_cons, List.mem_cons]
          exact .inr hz
        · rcases List.mem_cons.mp hc with rfl | hc
          · left
            have hub : b ≤ u ∨ u < b := by omega
            rcases k3 b (List.mem_cons_self ..) with h | h
            · exact Int.le_trans (ha (List.mem_cons_self ..)) h
            · have : v * q ≤ b * q := Int.mul_le_mul_of_nonneg_right h (Int.le_of_lt hq)
              omega
          · exact k3 c hc
/-- one of the two rows: where what lies at the share p of q lies in it, so what lies at s, no crossing of its sides being strictly between -/
theorem row_mid {g start step num W p q a b s : Int} (hW : 0 < W) (hq : 0 < q) (ht : HO1 g start step num p q) (h1 : a * q < 2 * W * p) (h2 : 2 * W * p < b * q) (m1 : a < s) (m2 : s < b)
    (hc : step ≠ 0 → ∀ side ∈ [rimL g num, rimH g num], ∃ c : Int, 2 * step * c = (side - 2 * start) * W ∧ (2 * c ≤ a ∨ b ≤ 2 * c)) : HO1 g start step num s (2 * W) := by
  obtain ⟨t1, t2⟩ := ht
  have W2 : 0 < 2 * W := by omega
  by_cases hs : step = 0
  · subst hs
    have e1 : (2 * num - 1) * g ≤ 2 * start := Int.le_of_mul_le_mul_right (a := q) (by
      have : 2 * (start * q + 0 * p) = 2 * start * q := by rw [Int.zero_mul, Int.add_zero, Int.mul_assoc]
      omega) hq
    have e2 : 2 * start < (2 * num + 1) * g := Int.lt_of_mul_lt_mul_right (a := q) (by
      have : 2 * (start * q + 0 * p) = 2 * start * q := by rw [Int.zero_mul, Int.add_zero, Int.mul_assoc]
      omega) (Int.le_of_lt hq)
    have k : 2 * (start * (2 * W) + 0 * s) = 2 * start * (2 * W) := by rw [Int.zero_mul, Int.add_zero, Int.mul_assoc]
    refine ⟨?_, ?_⟩
    · rw [k]; exact Int.mul_le_mul_of_nonneg_right e1 (Int.le_of_lt W2)
    · rw [k]; exact Int.mul_lt_mul_of_pos_right e2 W2
  · obtain ⟨c1, e1, n1⟩ := hc hs (rimL g num) (by simp)
    obtain ⟨c2, e2, n2⟩ := hc hs (rimH g num) (by simp)
    unfold rimL at e1
    unfold rimH at e2
    unfold HO1
    generalize (2 * num - 1) * g = lo at *
    generalize (2 * num + 1) * g = hi at *
    -- times 2 W: step (2 W p - 2 c1 q) ≥ 0, step (2 W p - 2 c2 q) < 0
    have f1 := Int.mul_le_mul_of_nonneg_right t1 (Int.le_of_lt W2)
    have f2 := Int.mul_lt_mul_of_pos_right t2 W2
    have x1 : lo * q * (2 * W) = 2 * (step * (2 * c1 * q)) + 2 * (start * q * (2 * W)) := by
      have : 2 * step * c1 * q = (lo - 2 * start) * W * q := by rw [e1]
      grind
    have x2 : hi * q * (2 * W) = 2 * (step * (2 * c2 * q)) + 2 * (start * q * (2 * W)) := by
      have : 2 * step * c2 * q = (hi - 2 * start) * W * q := by rw [e2]
      grind
    have x3 : 2 * (start * q + step * p) * (2 * W) = 2 * (step * (2 * W * p)) + 2 * (start * q * (2 * W)) := by grind
    have g1 : step * (2 * c1 * q) ≤ step * (2 * W * p) := by omega
    have g2 : step * (2 * W * p) < step * (2 * c2 * q) := by omega
    have y1 : lo * (2 * W) = 2 * (step * (2 * c1)) + 2 * (start * (2 * W)) := by grind
    have y2 : hi * (2 * W) = 2 * (step * (2 * c2)) + 2 * (start * (2 * W)) := by grind
    have y3 : 2 * (start * (2 * W) + step * s) = 2 * (step * s) + 2 * (start * (2 * W)) := by grind
    have mul_q : ∀ u v : Int, u ≤ v → u * q ≤ v * q := fun u v h => Int.mul_le_mul_of_nonneg_right h (Int.le_of_lt hq)
    rcases Int.lt_or_le step 0 with hs | hs
    · have h1' : 2 * W * p ≤ 2 * c1 * q := Int.not_lt.mp fun z => by
        have := Int.mul_lt_mul_of_pos_left z (show 0 < -step by omega)
        rw [Int.neg_mul, Int.neg_mul] at this
        omega
      have h2' : 2 * c2 * q < 2 * W * p := Int.lt_of_not_ge fun z => by
        have := Int.mul_le_mul_of_nonneg_left z (show 0 ≤ -step by omega)
        rw [Int.neg_mul, Int.neg_mul] at this
        omega
      have b1 : b ≤ 2 * c1 := by
        rcases n1 with z | z
        · have := mul_q _ _ z
          omega
        · exact z
      have b2 : 2 * c2 ≤ a := by
        rcases n2 with z | z
        · exact z
        · have := mul_q _ _ z
          omega
      have w1 := Int.mul_lt_mul_of_pos_left (show s < 2 * c1 by omega) (show 0 < -step by omega)
      have w2 := Int.mul_lt_mul_of_pos_left (show 2 * c2 < s by omega) (show 0 < -step by omega)
      rw [Int.neg_mul, Int.neg_mul] at w1 w2
      exact ⟨by omega, by omega⟩
    · have hs' : 0 < step := by omega
      have h1' : 2 * c1 * q ≤ 2 * W * p := Int.le_of_mul_le_mul_left g1 hs'
      have h2' : 2 * W * p < 2 * c2 * q := Int.lt_of_mul_lt_mul_left g2 hs
      have b1 : 2 * c1 ≤ a := by
        rcases n1 with z | z
        · exact z
        · have := mul_q _ _ z
          omega
      have b2 : b ≤ 2 * c2 := by
        rcases n2 with z | z
        · have := mul_q _ _ z
          omega
        · exact z
      have w1 := Int.mul_lt_mul_of_pos_left (show 2 * c1 < s by omega) hs'
      have w2 := Int.mul_lt_mul_of_pos_left (show s < 2 * c2 by omega) hs'
      exact ⟨by omega, by omega⟩
theorem mem_zip_tail {a b : Int} : ∀ {L : List Int}, (a, b) ∈ L.dropLast.zip L.tail → a ∈ L ∧ b ∈ L := by
  intro L h
  have h1 := (List.of_mem_zip h).1
  have h2 := (List.of_mem_zip h).2
  exact ⟨(List.dropLast_sublist L).subset h1, List.mem_of_mem_tail h2⟩
/-- the shares that are tried: some of 2 W, rising, both ends and each crossing within them there, and the middles of neighbours -/
theorem tried {g W : Int} {r : Ln} {c : Pt} {L : List Int} (hW : 0 < W) (hp : L.Pairwise (· ≤ ·)) (hL : ∀ s ∈ L, ∃ t : Int, s = 2 * t ∧ 0 ≤ t ∧ t ≤ W) (h0 : 0 ∈ L) (h1 : 2 * W ∈ L)
    (hx : r.2.1 - r.1.1 ≠ 0 → ∀ side ∈ [rimL g c.1, rimH g c.1], ∃ k : Int, 2 * (r.2.1 - r.1.1) * k = (side - 2 * r.1.1) * W ∧ (0 ≤ k → k ≤ W → 2 * k ∈ L))
    (hy : r.2.2 - r.1.2 ≠ 0 → ∀ side ∈ [rimL g c.2, rimH g c.2], ∃ k : Int, 2 * (r.2.2 - r.1.2) * k = (side - 2 * r.1.2) * W ∧ (0 ≤ k → k ≤ W → 2 * k ∈ L)) :
    Meets g r c ↔ ∃ s ∈ L ++ (L.dropLast.zip L.tail).map (fun z => (z.1 + z.2) / 2), HOc g r c s (2 * W) := by
  have rng : ∀ s ∈ L ++ (L.dropLast.zip L.tail).map (fun z => (z.1 + z.2) / 2), 0 ≤ s ∧ s ≤ 2 * W := fun s hs => by
    rcases List.mem_append.mp hs with h | h
    · obtain ⟨t, e, t0, t1⟩ := hL s h
      omega
    · obtain ⟨⟨a, b⟩, hm, rfl⟩ := List.mem_map.mp h
      obtain ⟨ha, hb⟩ := mem_zip_tail hm
      obtain ⟨t, e, t0, t1⟩ := hL _ ha
      obtain ⟨u, f, u0, u1⟩ := hL _ hb
      simp only
      omega
  constructor
  · intro ⟨p, q, hq, p0, p1, ha, hb⟩
    have hN0 : (0 : Int) * q ≤ 2 * W * p := by
      rw [Int.zero_mul]
      exact Int.mul_nonneg (by omega) p0
    have hN1 : 2 * W * p ≤ 2 * W * q := Int.mul_le_mul_of_nonneg_left p1 (by omega)
    rcases consec hq L hp ⟨0, h0, hN0⟩ ⟨2 * W, h1, hN1⟩ with ⟨a, ha', e⟩ | ⟨a, b, hz, k1, k2, k3⟩
    · refine ⟨a, List.mem_append_left _ ha', ?_⟩
      have same : ∀ start step num : Int, HO1 g start step num p q → HO1 g start step num a (2 * W) := fun start step num ⟨t1, t2⟩ => by
        have x : 2 * (start * (2 * W) + step * a) * q = 2 * (start * q + step * p) * (2 * W) := by
          have : step * (a * q) = step * (2 * W * p) := by rw [e]
          grind
        have y : ∀ z : Int, z * q * (2 * W) = z * (2 * W) * q := fun z => by rw [Int.mul_right_comm]
        have s1 := Int.mul_le_mul_of_nonneg_right t1 (show 0 ≤ 2 * W by omega)
        have s2 := Int.mul_lt_mul_of_pos_right t2 (show 0 < 2 * W by omega)
        rw [y, ← x] at s1
        rw [y, ← x] at s2
        exact ⟨Int.le_of_mul_le_mul_right s1 hq, Int.lt_of_mul_lt_mul_right s2 (Int.le_of_lt hq)⟩
      exact ⟨same _ _ _ ha, same _ _ _ hb⟩
    · obtain ⟨ma, mb⟩ := mem_zip_tail hz
      obtain ⟨t, ea, t0, t1⟩ := hL _ ma
      obtain ⟨u, eb, u0, u1⟩ := hL _ mb
      have hab : a < b := Int.lt_of_mul_lt_mul_right (Int.lt_trans k1 k2) (Int.le_of_lt hq)
      have m1 : a < (a + b) / 2 := by omega
      have m2 : (a + b) / 2 < b := by omega
      refine ⟨(a + b) / 2, List.mem_append_right _ (List.mem_map.mpr ⟨(a, b), hz, rfl⟩), ?_, ?_⟩
      · refine row_mid hW hq ha k1 k2 m1 m2 fun hs side hm => ?_
        obtain ⟨k, e, hk⟩ := hx hs side hm
        refine ⟨k, e, ?_⟩
        by_cases z0 : 0 ≤ k
        · by_cases z1 : k ≤ W
          · exact k3 _ (hk z0 z1)
          · right; omega
        · left; omega
      · refine row_mid hW hq hb k1 k2 m1 m2 fun hs side hm => ?_
        obtain ⟨k, e, hk⟩ := hy hs side hm
        refine ⟨k, e, ?_⟩
        by_cases z0 : 0 ≤ k
        · by_cases z1 : k ≤ W
          · exact k3 _ (hk z0 z1)
          · right; omega
        · left; omega
  · intro ⟨s, hs, h⟩
    obtain ⟨s0, s1⟩ := rng s hs
    exact ⟨s, 2 * W, by omega, s0, s1, h⟩
/-- turned about, and moved by whole corners -/
theorem Meets.rev {g : Int} {r : Ln} {c : Pt} : Meets g (r.2, r.1) c ↔ Meets g r c := by
  have one : ∀ {r : Ln}, Meets g r c → Meets g (r.2, r.1) c := fun {r} ⟨p, q, hq, p0, p1, ha, hb⟩ => by
    refine ⟨q - p, q, hq, by omega, by omega, ?_, ?_⟩
    · have e : r.2.1 * q + (r.1.1 - r.2.1) * (q - p) = r.1.1 * q + (r.2.1 - r.1.1) * p := by grind
      unfold HO1 at ha ⊢
      simp only
      rw [e]
      exact ha
    · have e : r.2.2 * q + (r.1.2 - r.2.2) * (q - p) = r.1.2 * q + (r.2.2 - r.1.2) * p := by grind
      unfold HO1 at hb ⊢
      simp only
      rw [e]
      exact hb
  exact ⟨fun h => one h, fun h => one h⟩
theorem Meets.move {g i j : Int} {r : Ln} {c : Pt} : Meets g ((r.1.1 + i * g, r.1.2 + j * g), (r.2.1 + i * g, r.2.2 + j * g)) (c.1 + i, c.2 + j) ↔ Meets g r c := by
  have one : ∀ start step num i p q : Int, HO1 g (start + i * g) step (num + i) p q ↔ HO1 g start step num p q := fun start step num i p q => by
    unfold HO1
    have e1 : (2 * (num + i) - 1) * g * q = (2 * num - 1) * g * q + 2 * (i * g * q) := by grind
    have e2 : (2 * (num + i) + 1) * g * q = (2 * num + 1) * g * q + 2 * (i * g * q) := by grind
    have e3 : 2 * ((start + i * g) * q + step * p) = 2 * (start * q + step * p) + 2 * (i * g * q) := by grind
    rw [e1, e2, e3]
    omega
  unfold Meets HOc
  simp only [show ∀ a b k : Int, a + k - (b + k) = a - b from fun a b k => by omega, one]
theorem nr_eq {n d i : Int} (h : 0 < d) : nr n d = i ↔ (2 * i - 1) * d ≤ 2 * n ∧ 2 * n < (2 * i + 1) * d := by
  have k := nr_lies (n := n) h
  constructor
  · intro e
    rw [← e]
    exact k
  · intro ⟨a, b⟩
    have c1 : (2 * nr n d - 1) * d < (2 * i + 1) * d := by omega
    have c2 : (2 * i - 1) * d < (2 * nr n d + 1) * d := by omega
    have := Int.lt_of_mul_lt_mul_right c1 (Int.le_of_lt h)
    have := Int.lt_of_mul_lt_mul_right c2 (Int.le_of_lt h)
    omega
theorem in_cell {g start step num p q : Int} (hg : 0 < g) (hq : 0 < q) : nr (q * start + p * step) (q * g) = num ↔ HO1 g start step num p q := by
  rw [nr_eq (Int.mul_pos hq hg)]
  unfold HO1
  rw [show start * q + step * p = q * start + p * step by rw [Int.mul_comm q, Int.mul_comm p], show (2 * num - 1) * g * q = (2 * num - 1) * (q * g) by rw [Int.mul_assoc, Int.mul_comm g q], show (2 * num + 1) * g * q = (2 * num + 1) * (q * g) by rw [Int.mul_assoc, Int.mul_comm g q]]
theorem HO1.scale {g start step num p q k : Int} (hk : 0 < k) : HO1 g start step num (p * k) (q * k) ↔ HO1 g start step num p q := by
  unfold HO1
  have e1 : (2 * num - 1) * g * (q * k) = (2 * num - 1) * g * q * k := by rw [Int.mul_assoc _ q k]
  have e2 : (2 * num + 1) * g * (q * k) = (2 * num + 1) * g * q * k := by rw [Int.mul_assoc _ q k]
  have e3 : 2 * (start * (q * k) + step * (p * k)) = 2 * (start * q + step * p) * k := by grind
  rw [e1, e2, e3]
  exact ⟨fun ⟨a, b⟩ => ⟨Int.le_of_mul_le_mul_right a hk, Int.lt_of_mul_lt_mul_right b (Int.le_of_lt hk)⟩, fun ⟨a, b⟩ => ⟨Int.mul_le_mul_of_nonneg_right a (Int.le_of_lt hk), Int.mul_lt_mul_of_pos_right b hk⟩⟩
/-- in lowest terms the middle lies in the cell just when it does -/
theorem mid_low {g p q k : Int} {r : Ln} {c : Pt} (hk : 0 < k) : HOc g r c (p * k) (q * k) ↔ HOc g r c p q := by
  unfold HOc
  rw [HO1.scale hk, HO1.scale hk]
end Cl

namespace Cl
open PySem PySem.Spec PyProof.Rows L2
/-! ### promises: shares of lines within cells -/
def ShB (s : Sh) : Prop := -(2 ^ 60) < s.1 ∧ s.1 < 2 ^ 60 ∧ 0 < s.2 ∧ s.2 < 2 ^ 60
def spRims (K : PySem.W.Frag) : Sp := fun vs H Q _ => ∃ g n : Int, vs = [.int g, .int n] ∧ 0 < g ∧ g < 2 ^ 60 ∧ New H (.tup [.int (rimL g n), .int (rimH g n)]) Q
def spLow (K : PySem.W.Frag) : Sp := fun vs H Q _ => ∃ n d : Int, vs = [.int n, .int d] ∧ 0 < d ∧ d < 2 ^ 200 ∧
  ∀ w H' (p q k : Int), Same H H' → 0 < k → n = p * k → d = q * k → 0 < q → At2 K H' w (p, q) → Q w H'
def spSooner (K : PySem.W.Frag) : Sp := fun vs H Q _ => ∃ u v p q, vs = [u, v] ∧ At2 K H u p ∧ At2 K H v q ∧ ShB p ∧ ShB q ∧ Q (.bl (decide (p.1 * q.2 < q.1 * p.2))) H
def spLater (K : PySem.W.Frag) (f : Sh → Sh → Sh) : Sp := fun vs H Q _ => ∃ u v p q, vs = [u, v] ∧ At2 K H u p ∧ At2 K H v q ∧ ShB p ∧ ShB q ∧ ∀ w, At2 K H w (f p q) → Q w H
theorem later_ShB {a b : Sh} (ha : ShB a) (hb : ShB b) : ShB (later a b) := by unfold later; split <;> assumption
theorem soon_ShB {a b : Sh} (ha : ShB a) (hb : ShB b) : ShB (soon a b) := by unfold soon; split <;> assumption
theorem low_parts {n d : Int} (hd : 0 < d) : ∃ k : Int, k = (Int.gcd n d : Nat) ∧ 0 < k ∧ k ≤ d ∧ n = n / k * k ∧ d = d / k * k ∧ 0 < d / k := by
  have h0 : 0 < Int.gcd n d := Int.gcd_pos_of_ne_zero_right _ (by omega)
  have h1 : ((Int.gcd n d : Nat) : Int) ∣ n := Int.gcd_dvd_left ..
  have h2 : ((Int.gcd n d : Nat) : Int) ∣ d := Int.gcd_dvd_right ..
  refine ⟨_, rfl, by omega, Int.le_of_dvd hd h2, (Int.ediv_mul_cancel h1).symm, (Int.ediv_mul_cancel h2).symm, Int.ediv_pos_of_pos_of_dvd hd (by omega) h2⟩
end Cl

namespace Cl
open PySem PySem.Spec PyProof.Rows L2
/-! ### a loop over zip of three tuples -/
def Itz3 (K : PySem.W.Frag) (a b c : Addr) : It :=
  ⟨fun i H => ∃ xs ys zs : List V, SqT K H a xs ∧ SqT K H b ys ∧ SqT K H c zs ∧ i < xs.length ∧ i < ys.length ∧ i < zs.length,
    fun i H v H' => ∃ T x y u, v = .ref T ∧ H T = none ∧ H' = upd H T (.tup [x, y, u]) ∧ (∀ xs, SqT K H a xs → xs[i]? = some x) ∧ (∀ ys, SqT K H b ys → ys[i]? = some y) ∧ ∀ zs, SqT K H c zs → zs[i]? = some u,
    fun i H => ∃ xs ys zs : List V, SqT K H a xs ∧ SqT K H b ys ∧ SqT K H c zs ∧ i = min (min xs.length ys.length) zs.length⟩
theorem turn_zip3 {P : Program} {w : World} {K : PySem.W.Frag} {elts : List Expr} {kk : Nat} {tpos : Pos} {a b c z TI TO i1 i2 i3 : Addr} (S : ZipSep3 z TI TO i1 i2 i3 [i1, a] [i2, b] [i3, c]) (n1 : a ≠ i1) (n2 : b ≠ i2) (n3 : c ≠ i3) :
    Turn P w K (.Tuple elts kk tpos) (Itz3 K a b c) [z, TI, TO, i1, i2, i3] z (fun i h => IsZip h z TI TO .none ∧ IsTupOf3 h TI (.ref i1) (.ref i2) (.ref i3) ∧ (∃ x y u, IsTupOf3 h TO x y u) ∧ h.IsTupleIter i1 a i ∧ h.IsTupleIter i2 b i ∧ h.IsTupleIter i3 c i) where
  mem := by simp
  obj := fun i h st d hd => by
    obtain ⟨hz, hTI, ⟨x, y, u, hTO⟩, ⟨o1, e1, _, d1⟩, ⟨o2, e2, _, d2⟩, ⟨o3, e3, _, d3⟩⟩ := st
    simp only [List.mem_cons, List.not_mem_nil, or_false] at hd
    rcases hd with rfl | rfl | rfl | rfl | rfl | rfl
    · exact ⟨_, hz, fun v q => nomatch q⟩
    · exact ⟨_, hTI, fun v q => nomatch q⟩
    · exact ⟨_, hTO, fun v q => nomatch q⟩
    · exact ⟨o1, e1, fun v q => by rw [d1] at q; cases q⟩
    · exact ⟨o2, e2, fun v q => by rw [d2] at q; cases q⟩
    · exact ⟨o3, e3, fun v q => by rw [d3] at q; cases q⟩
  keep := fun i h h' st k => by
    obtain ⟨hz, hTI, ⟨x, y, u, hTO⟩, h1, h2, h3⟩ := st
    exact ⟨k z (by simp) _ hz, k TI (by simp) _ hTI, ⟨x, y, u, k TO (by simp) _ hTO⟩, h1.at fun o q => k i1 (by simp) o q, h2.at fun o q => k i2 (by simp) o q, h3.at fun o q => k i3 (by simp) o q⟩
  item := by
    intro X hP hw hK hc i pins s σ H E I hf st hg
    subst hP hw hK
    obtain ⟨hz, hTI, hTO, h1, h2, h3⟩ := st
    obtain ⟨xs, ys, zs, q1, q2, q3, l1, l2, l3⟩ := hg
    obtain ⟨t1, r1, p1, _⟩ := I.tuple q1
    obtain ⟨t2, r2, p2, _⟩ := I.tuple q2
    obtain ⟨t3, r3, p3, _⟩ := I.tuple q3
    have m1 := r1.length
    have m2 := r2.length
    have m3 := r3.length
    have hh : X.A.in1.handled = none := I.ok.hd hc
    have W := GoesN.zip3 (elts := elts) (x1 := kk) (pos := tpos) S (Draws.tuple (prog := X.prog) (w := X.w) hh i1 a n1 t1.toArray) (Draws.tuple hh i2 b n2 t2.toArray) (Draws.tuple hh i3 c n3 t3.toArray)
    refine W.goes i s _ E (by simp; omega) ⟨hz, hTI, hTO, ⟨h1, p1⟩, ⟨h2, p2⟩, ⟨h3, p3⟩⟩ fun v h' tk hY st' hk htk => ?_
    obtain ⟨T, x, y, u, rfl, hT, hx, hy, hu, hTup⟩ := hY
    obtain ⟨z', TI', TO', ⟨h1', _⟩, ⟨h2', _⟩, ⟨h3', _⟩⟩ := st'
    obtain ⟨x', ex, rx⟩ := r1.get (List.getElem?_eq_getElem l1)
    obtain ⟨y', ey, ry⟩ := r2.get (List.getElem?_eq_getElem l2)
    obtain ⟨u', eu, ru⟩ := r3.get (List.getElem?_eq_getElem l3)
    have ex' : x' = x := by simpa [ex] using hx
    have ey' : y' = y := by simpa [ey] using hy
    have eu' : u' = u := by simpa [eu] using hu
    subst ex' ey' eu'
    have new : ObjOk X.prog X.w (upd H T (.tup [xs[i], ys[i], zs[i]])) h' T (.tup [xs[i], ys[i], zs[i]]) :=
      ⟨by show 3 ≤ sizeLine; decide, [x', y', u'], .cons rx (.cons ry (.cons ru .nil)), hTup⟩
    have hk2 : ∀ d o, d ∉ [z, TI, TO, i1, i2, i3] → s.heap.get? d = some o → h'.get? d = some o := fun d o hd e =>
      hk d o (fun q => hd (by simp only [List.mem_cons, List.not_mem_nil, or_false] at q ⊢; rcases q with q | q | q | q | q <;> simp [q])) e
    have I1 := I.turnedNew (t' := tk) (ch := [z, TI, TO, i1, i2, i3]) hk2 hf hT new
    refine ⟨.ref T, _, I1, rfl, ⟨T, _, _, _, rfl, I.hok.fresh hT, rfl, fun l hl => by rw [I.tuple_inj hl q1]; exact List.getElem?_eq_getElem l1, fun l hl => by rw [I.tuple_inj hl q2]; exact List.getElem?_eq_getElem l2, fun l hl => by rw [I.tuple_inj hl q3]; exact List.getElem?_eq_getElem l3⟩, ⟨z', TI', TO', h1', h2', h3'⟩, fun d hd => ?_⟩
    have hlt : d < s.heap.objs.size := by
      simp only [List.mem_cons, List.not_mem_nil, or_false] at hd
      obtain ⟨_, _, _, hTO⟩ := hTO
      rcases hd with q | q | q | q | q | q
      · rw [q]; exact Heap.lt_size hz
      · rw [q]; exact Heap.lt_size hTI
      · rw [q]; exact Heap.lt_size hTO
      · rw [q]; obtain ⟨_, e1, _⟩ := h1; exact Heap.lt_size e1
      · rw [q]; obtain ⟨_, e1, _⟩ := h2; exact Heap.lt_size e1
      · rw [q]; obtain ⟨_, e1, _⟩ := h3; exact Heap.lt_size e1
    rw [upd_ne (Nat.ne_of_lt (Nat.lt_of_lt_of_le hlt hT))]
    exact (hf d hd).1
  done := by
    intro X hP hw hK hc i pins s σ H E I hf st hg
    subst hP hw hK
    obtain ⟨hz, hTI, hTO, h1, h2, h3⟩ := st
    obtain ⟨xs, ys, zs, q1, q2, q3, l⟩ := hg
    obtain ⟨t1, r1, p1, _⟩ := I.tuple q1
    obtain ⟨t2, r2, p2, _⟩ := I.tuple q2
    obtain ⟨t3, r3, p3, _⟩ := I.tuple q3
    have m1 := r1.length
    have m2 := r2.length
    have m3 := r3.length
    have hh : X.A.in1.handled = none := I.ok.hd hc
    have W := GoesN.zip3 (elts := elts) (x1 := kk) (pos := tpos) S (Draws.tuple (prog := X.prog) (w := X.w) hh i1 a n1 t1.toArray) (Draws.tuple hh i2 b n2 t2.toArray) (Draws.tuple hh i3 c n3 t3.toArray)
    have hi : i = min (min t1.toArray.size t2.toArray.size) t3.toArray.size := by simp; omega
    subst hi
    refine W.stops s _ E ⟨hz, hTI, hTO, ⟨h1, p1⟩, ⟨h2, p2⟩, ⟨h3, p3⟩⟩ fun h' tk hk htk => I.turnedL (t' := tk) (ch := [z, TI, TO, i1, i2, i3]) (fun d o hd e => ?_) hf
    exact hk d o (fun q => hd (by simp only [List.mem_cons, List.not_mem_nil, or_false] at q ⊢; rcases q with q | q | q | q | q <;> simp [q])) e
  self := fun A i s Q E st h => wpAny_pyIter_zip st.1 h
def iZip3 (K : PySem.W.Frag) (ta : TA) : TI := fun σ H R => ta σ H fun vs H1 => ∃ a b c xs ys zs, vs = [.ref a, .ref b, .ref c] ∧ SqT K H1 a xs ∧ SqT K H1 b ys ∧ SqT K H1 c zs ∧ R (Itz3 K a b c) H1
theorem pi_zip3 {X : Cx} {e e2 e3 : Expr} {ta : TA} {p pos tpos : Pos} {elts : List Expr} {kk : Nat} (hg : Gl X "zip") (hm : X.mg "zip" = none) (ha : PA X [e, e2, e3] ta)
    (hs : starEach [e, e2, e3] X.env = (false, eval e X.env) :: starEach [e2, e3] X.env := by rfl) (hpl : (backTo pos (starEach [e2, e3] X.env)).any (·.1) = false := by rfl) :
    PI X (.Tuple elts kk tpos) (.Call (.Name "zip" p) [e, e2, e3] [] pos) (iZip3 X.K ta) := by
  refine ⟨fun pins s σ H R I h => ?_⟩
  refine Call_ (ld_blt I hg hm PyProof.Rows.boot_zip (PyProof.Rows.callWith_type1 (thn (ha.run pos pins s σ H _ I h) fun us s1 ⟨vs, H1, I1, r1, q1⟩ => ?_) hs hpl))
  obtain ⟨a, b, c, xs, ys, zs, ex, q1, q2, q3, q⟩ := q1
  subst ex
  cases r1 with
  | cons r rr =>
    cases rr with
    | cons r' rr =>
      cases rr with
      | cons r'' rr =>
        cases rr
        cases r
        cases r'
        cases r''
        obtain ⟨t1, v1, p1, _⟩ := I1.tuple q1
        obtain ⟨t2, v2, p2, _⟩ := I1.tuple q2
        obtain ⟨t3, v3, p3, _⟩ := I1.tuple q3
        have la : a < s1.heap.objs.size := by obtain ⟨o1, g1, _⟩ := id p1; exact Heap.lt_size g1
        have lb : b < s1.heap.objs.size := by obtain ⟨o1, g1, _⟩ := id p2; exact Heap.lt_size g1
        have lc : c < s1.heap.objs.size := by obtain ⟨o1, g1, _⟩ := id p3; exact Heap.lt_size g1
        have fresh : ∀ d, d ∈ [s1.heap.objs.size + 5, s1.heap.objs.size + 3, s1.heap.objs.size + 4, s1.heap.objs.size, s1.heap.objs.size + 1, s1.heap.objs.size + 2] → FpOk X pins H1 d := fun d hd => by
          have hle : s1.heap.objs.size ≤ d := by
            simp only [List.mem_cons, List.not_mem_nil, or_false] at hd
            rcases hd with z | z | z | z | z | z
            · rw [z]; exact Nat.le_add_right _ _
            · rw [z]; exact Nat.le_add_right _ _
            · rw [z]; exact Nat.le_add_right _ _
            · rw [z]; exact Nat.le_refl _
            · rw [z]; exact Nat.le_add_right _ _
            · rw [z]; exact Nat.le_add_right _ _
          exact I1.fpOk hle (I1.hok.fresh hle)
        refine zip_begins3 (begins_tuple a t1.toArray) (begins_tuple b t2.toArray) (begins_tuple c t3.toArray) p1 p2 p3 fun h' hz hTI hTO h1 h2 h3 hsz hk => wpAny_pyIter_zip hz ?_
        have I2 : Inv X pins σ H1 { s1 with heap := h' } := I1.kept (t' := s1.toks) hk
        have ne : ∀ (d : Addr) (k : Nat), d < s1.heap.objs.size → d ≠ s1.heap.objs.size + k := fun d k hd => Nat.ne_of_lt (Nat.lt_of_lt_of_le hd (Nat.le_add_right _ _))
        exact ⟨s1.heap.objs.size + 5, [s1.heap.objs.size + 5, s1.heap.objs.size + 3, s1.heap.objs.size + 4, s1.heap.objs.size, s1.heap.objs.size + 1, s1.heap.objs.size + 2], _, _, H1, rfl, I2,
          turn_zip3 (zip_sep3 (fp1 := [a]) (fp2 := [b]) (fp3 := [c]) (fun d hd => by rw [List.mem_singleton.mp hd]; exact la) (fun d hd => by rw [List.mem_singleton.mp hd]; exact lb) (fun d hd => by rw [List.mem_singleton.mp hd]; exact lc)) (ne a 0 la) (ne b 1 lb) (ne c 2 lc),
          ⟨hz, hTI, ⟨_, _, _, hTO⟩, ⟨_, h1, rfl, rfl⟩, ⟨_, h2, rfl, rfl⟩, ⟨_, h3, rfl, rfl⟩⟩, fresh, q⟩
theorem for_zip3 {K : PySem.W.Frag} {a b c : Addr} {xs ys zs : List V} {g : TG} {tb : TS} {D : Ends} {σ : L2.St} {H : Hp} (hl : xs.length = ys.length) (hl2 : xs.length = zs.length) (Pv : Nat → L2.St → Hp → Prop) (h0 : Pv 0 σ H) (hq : ∀ i σ H, Pv i σ H → SqT K H a xs ∧ SqT K H b ys ∧ SqT K H c zs)
    (hs : ∀ (i : Nat) (x y u : V) (T : Addr) (σ : L2.St) (H : Hp), xs[i]? = some x → ys[i]? = some y → zs[i]? = some u → Pv i σ H → H T = none → g (.ref T) σ (upd H T (.tup [x, y, u])) fun σ2 H2 => tb { D with nx := Pv (i + 1), ct := Pv (i + 1), bk := D.nx } σ2 H2) (hd : ∀ σ H, Pv xs.length σ H → D.nx σ H) :
    ∃ W : Nat → Nat → L2.St → Hp → Prop, (∃ m, W 0 m σ H) ∧ ∀ i m σ H, W i m σ H →
      ((Itz3 K a b c).stop i H ∧ D.nx σ H) ∨ ((Itz3 K a b c).go i H ∧ ∃ N : L2.St → Hp → Prop, (∀ σ' H', N σ' H' → ∃ m', m' < m ∧ W (i + 1) m' σ' H') ∧ ∀ v H', (Itz3 K a b c).yld i H v H' → g v σ H' fun σ2 H2 => tb { D with nx := N, ct := N, bk := D.nx } σ2 H2) := by
  refine ⟨fun i m σ H => m = xs.length - i ∧ i ≤ xs.length ∧ Pv i σ H, ⟨xs.length, rfl, Nat.zero_le _, h0⟩, ?_⟩
  rintro i m σ H ⟨rfl, hi, p⟩
  obtain ⟨qx, qy, qz⟩ := hq i σ H p
  by_cases hlt : i < xs.length
  · refine .inr ⟨⟨xs, ys, zs, qx, qy, qz, hlt, by omega, by omega⟩, Pv (i + 1), fun σ' H' p' => ⟨xs.length - (i + 1), by omega, rfl, hlt, p'⟩, fun v H' y => ?_⟩
    obtain ⟨T, x', y', u', rfl, hT, rfl, f1, f2, f3⟩ := y
    exact hs i x' y' u' T σ H (f1 xs qx) (f2 ys qy) (f3 zs qz) p hT
  · have e : i = xs.length := by omega
    subst e
    exact .inl ⟨⟨xs, ys, zs, qx, qy, qz, by omega⟩, hd σ H p⟩
end Cl

namespace Cl
open PySem PySem.Spec PyProof.Rows L2
/-! ### pairs of lines of great numbers -/
def AtPair (K : PySem.W.Frag) (H : Hp) (v : V) (l r : Ln) : Prop := ∃ a u w, v = .ref a ∧ SqT K H a [u, w] ∧ AtL K H u l ∧ AtL K H w r
def GoodPair (l r : Ln) : Prop := BdL l ∧ BdL r ∧ l.1 ≠ l.2 ∧ r.1 ≠ r.2
def spPair (K : PySem.W.Frag) : Sp := fun vs H Q _ => ∃ (d l : Addr), vs = [.ref d] ∧ Deck H d l ∧
  ∀ w H' m n, Step d l H H' → AtPair K H' w m n → GoodPair m n → Q w H'
def spNum (B : Int) : Sp := fun vs H Q _ => ∃ (d l : Addr), vs = [.ref d] ∧ Deck H d l ∧ ∀ v H', -B ≤ v → v ≤ B → Step d l H H' → Q (.int v) H'
def spStepsP (K : PySem.W.Frag) : Sp := fun vs H Q _ => ∃ (d l : Addr), vs = [.ref d] ∧ Deck H d l ∧
  ∀ w H' p, Step d l H H' → At2 K H' w p → BdN 60000 p → p ≠ (0, 0) → Q w H'
theorem bdC_of {p : Pt} (h : BdN 10000000 p) : BdC p := by
  unfold BdN at h
  unfold BdC
  omega
theorem AllAt.twoLn {K : PySem.W.Frag} {H : Hp} {vs : List V} {p q : Pt} (h : AllAt (At2 K H) vs [p, q]) : ∃ u w, vs = [u, w] ∧ At2 K H u p ∧ At2 K H w q := by
  match vs, h with
  | [u, w], .cons a (.cons b .nil) => exact ⟨u, w, rfl, a, b⟩
theorem four {xs : List Int} (h : xs.length = 4) : ∃ x y z w, xs = [x, y, z, w] := by
  match xs, h with
  | [x, y, z, w], _ => exact ⟨x, y, z, w, rfl⟩
end Cl

namespace Cl
open PySem PySem.Spec PyProof.Rows L2
/-! ### a call of a def with a starred argument behind the first -/
section
variable {X : Cx} {k : Nat} {ps : List Str} {sp : Sp} {x : Str} {p pos : Pos} {e : Expr} {es : List Expr} {t : TA}
theorem callDS (D : Def X.prog X.w X.K X.mg X.base k x ps sp) (hr : RG k X.A) (ha : PA X (e :: es) t)
    (hg : Gl X x := by rfl) (hdb : (x == ("__debug__" : Str)) = false := by decide)
    (he : starEach (e :: es) X.env = (false, eval e X.env) :: starEach es X.env := by rfl)
    (hst : (backTo pos (starEach es X.env)).any (·.1) = true := by rfl) :
    PE X (.Call (.Name x p) (e :: es) [] pos) (tCall sp [] E0 t) := by
  obtain ⟨f, fd, F, hm, hk, hb⟩ := D.ex
  constructor
  intro pins s σ H Q I h
  refine wpAny_Call_Name_kw (ld_glob I hg hm ?_ hdb)
  refine PySem.W.callWith_S2 (h₀ := X.base) I.ok.mod.kin hk ?_ he hst
  refine thn (ha.run pos pins s σ H _ I h) fun us s1 ⟨vs, H1, I1, r, q⟩ => ⟨I1.kIn, ?_⟩
  have r2 : Vals (vs ++ []) (us ++ []) := r.append .nil
  have h2 : sp (vs ++ []) H1 Q E0 := q
  have n2 : (us ++ []).length = ps.length := r2.length.symm.trans (F.len _ _ _ _ h2)
  have run := F.run X.A X.stack s1 H1 ⟨us, []⟩ (us ++ []) (vs ++ []) Q E0 hr I1.env0 (hb s1 us I1.kIn n2) r2 h2
  refine wpAny_call (codeAny_mono run fun res s' hq => ?_)
  match res, hq with
  | .error ee, hq => exact pass0 pins σ H1 s1 ee s' I1 hq
  | .ok (.ret u), hq => exact I1.after hq
  | .ok .next, hq => exact hq.elim
  | .ok .brk, hq => exact hq.elim
  | .ok .cont, hq => exact hq.elim
end
/-! ### promises: the part of a line within a cell -/
def BdW (g : Int) (r : Ln) (c : Pt) : Prop := 0 < g ∧ g ≤ 1000 ∧ BdN 3000000 r.1 ∧ BdN 3000000 r.2 ∧ BdN 3000000 c
def AtSh (K : PySem.W.Frag) (H : Hp) (v : V) (f l : Sh) : Prop := ∃ a u w, v = .ref a ∧ SqT K H a [u, w] ∧ At2 K H u f ∧ At2 K H w l
def ShN (s : Sh) : Prop := -(2 ^ 36) < s.1 ∧ s.1 < 2 ^ 36 ∧ 0 < s.2 ∧ s.2 < 2 ^ 24
theorem ShN.b {s : Sh} (h : ShN s) : ShB s := by
  unfold ShN at h
  unfold ShB
  omega
theorem later_ShN {a b : Sh} (ha : ShN a) (hb : ShN b) : ShN (later a b) := by unfold later; split <;> assumption
theorem soon_ShN {a b : Sh} (ha : ShN a) (hb : ShN b) : ShN (soon a b) := by unfold soon; split <;> assumption
def spWithin (K : PySem.W.Frag) : Sp := fun vs H Q _ => ∃ g v r u c, vs = [.int g, v, u] ∧ AtL K H v r ∧ At2 K H u c ∧ BdW g r c ∧
  (sharesW g r c = none → ∀ H', Same H H' → Q .non H') ∧ ∀ f l w H', sharesW g r c = some (f, l) → Same H H' → AtSh K H' w f l → ShN f → ShN l → Q w H'
/-- the two numbers of a point, by 0 and 1 -/
def crd (p : Int × Int) (i : Nat) : Int := if i = 0 then p.1 else p.2
def stg (g : Int) (r : Ln) (c : Pt) : Nat → Option (Sh × Sh)
  | 0 => some ((0, 1), (1, 1))
  | i + 1 => match stg g r c i with
    | none => none
    | some (f, l) => inc f l (crd r.2 i - crd r.1 i) (rimL g (crd c i) - 2 * crd r.1 i) (rimH g (crd c i) - 2 * crd r.1 i)
theorem sharesW_stg (g : Int) (r : Ln) (c : Pt) : sharesW g r c = match stg g r c 2 with
    | none => none
    | some (f, l) => if l.1 * f.2 < f.1 * l.2 then none else some (f, l) := by
  unfold sharesW
  cases h : inc (0, 1) (1, 1) (r.2.1 - r.1.1) (rimL g c.1 - 2 * r.1.1) (rimH g c.1 - 2 * r.1.1) with
  | none => simp [stg, crd, h]
  | some z =>
    obtain ⟨f, l⟩ := z
    cases h2 : inc f l (r.2.2 - r.1.2) (rimL g c.2 - 2 * r.1.2) (rimH g c.2 - 2 * r.1.2) with
    | none => simp [stg, crd, h, h2]
    | some z => simp [stg, crd, h, h2]
theorem stg_none {g : Int} {r : Ln} {c : Pt} {i : Nat} (hi : i < 2) (h : stg g r c (i + 1) = none) : sharesW g r c = none := by
  rw [sharesW_stg]
  obtain rfl | rfl : i = 0 ∨ i = 1 := by omega
  · rw [show stg g r c 2 = match stg g r c 1 with
      | none => none
      | some (f, l) => inc f l (crd r.2 1 - crd r.1 1) (rimL g (crd c 1) - 2 * crd r.1 1) (rimH g (crd c 1) - 2 * crd r.1 1) from rfl, h]
  · rw [h]
theorem rim_b {g n : Int} (h0 : 0 < g) (h1 : g ≤ 1000) (n0 : -3000000 ≤ n) (n1 : n ≤ 3000000) : -(2 ^ 34) < rimL g n ∧ rimL g n < 2 ^ 34 ∧ -(2 ^ 34) < rimH g n ∧ rimH g n < 2 ^ 34 := by
  have k : ∀ z : Int, -6000001 ≤ z → z ≤ 6000001 → -6000001000 ≤ z * g ∧ z * g ≤ 6000001000 := fun z z0 z1 => by
    have a1 : (z + 6000001) * g ≤ (z + 6000001) * 1000 := Int.mul_le_mul_of_nonneg_left h1 (by omega)
    have a2 : (6000001 - z) * g ≤ (6000001 - z) * 1000 := Int.mul_le_mul_of_nonneg_left h1 (by omega)
    have a3 : 0 ≤ (z + 6000001) * g := Int.mul_nonneg (by omega) (by omega)
    have a4 : 0 ≤ (6000001 - z) * g := Int.mul_nonneg (by omega) (by omega)
    rw [Int.add_mul] at a1 a3
    rw [Int.sub_mul] at a2 a4
    omega
  unfold rimL rimH
  have := k (2 * n - 1) (by omega) (by omega)
  have := k (2 * n + 1) (by omega) (by omega)
  omega
/-- corner_at: its spot's corner -/
def spCornerAt (K : PySem.W.Frag) : Sp := fun vs H Q _ => ∃ (g : Int) (v : V) (s : S3), vs = [.int g, v] ∧ At3 K H v s ∧ 0 < g ∧ g < 2 ^ 60 ∧ 0 < s.2.2 ∧ s.2.2 * g < 2 ^ 60 ∧
  ∀ w H', Same H H' → At2 K H' w (nr s.1 (s.2.2 * g), nr s.2.1 (s.2.2 * g)) → Q w H'
def spShare (K : PySem.W.Frag) : Sp := fun vs H Q _ => ∃ g v r u c, vs = [.int g, v, u] ∧ AtL K H v r ∧ At2 K H u c ∧ BdW g r c ∧
  (¬ Meets g r c → ∀ H', Same H H' → Q .non H') ∧ (Meets g r c → ∀ p w H', Same H H' → At2 K H' w p → Q w H')
def spMeets (K : PySem.W.Frag) : Sp := fun vs H Q _ => ∃ g v r u c, vs = [.int g, v, u] ∧ AtL K H v r ∧ At2 K H u c ∧ BdW g r c ∧
  ∀ b H', Same H H' → (b = true ↔ Meets g r c) → Q (.bl b) H'
theorem eqv_pair (i j k l : Int) : PyData.eqv (.tuple [.int i, .int j]) (.tuple [.int k, .int l]) = decide (i = k ∧ j = l) := by
  rw [Bool.eq_iff_iff]
  simp [PyData.eqv, PyData.eqvAll]
theorem mid_b {f l : Sh} (hf : ShN f) (hl : ShN l) : 0 < midQ f l ∧ midQ f l ≤ 2 ^ 49 := by
  unfold ShN at hf hl
  unfold midQ
  have h1 : f.2 * l.2 ≤ 2 ^ 24 * 2 ^ 24 := Int.mul_le_mul (by omega) (by omega) (by omega) (by decide)
  have h2 : 0 < f.2 * l.2 := Int.mul_pos (by omega) (by omega)
  rw [Int.mul_assoc]
  omega
/-- the corner of the point at the share p of q is this one just when the point lies in its cell -/
theorem corner_share {g : Int} {r : Ln} {c : Pt} {p q : Int} (hg : 0 < g) (hq : 0 < q) :
    let s := sp3 (q * r.1.1 + p * (r.2.1 - r.1.1)) (q * r.1.2 + p * (r.2.2 - r.1.2)) q
    0 < s.2.2 ∧ s.2.2 ≤ q ∧ ((nr s.1 (s.2.2 * g), nr s.2.1 (s.2.2 * g)) = c ↔ HOc g r c p q) := by
  obtain ⟨k, _, _, _, _, h2, h3⟩ := spot_pos (n := q * r.1.1 + p * (r.2.1 - r.1.1)) (m := q * r.1.2 + p * (r.2.2 - r.1.2)) hq
  refine ⟨h2, h3, ?_⟩
  obtain ⟨e1, e2⟩ := nr_spot (n := q * r.1.1 + p * (r.2.1 - r.1.1)) (m := q * r.1.2 + p * (r.2.2 - r.1.2)) (g := g) hq
  show (nr _ (_ * g), nr _ (_ * g)) = c ↔ _
  unfold sp3
  simp only
  rw [e1, e2]
  unfold HOc
  rw [← in_cell hg hq, ← in_cell hg hq]
  constructor
  · intro e
    rw [← e]
    exact ⟨rfl, rfl⟩
  · intro ⟨a, b⟩
    exact Prod.ext a b
end Cl

namespace Cl
open PySem PySem.Spec PyProof.Rows L2
/-! ### lines of any grain, drawn; the shares tried -/
def BdR (B : Int) (r : Ln) : Prop := BdN B r.1 ∧ BdN B r.2
def spGrainW : Sp := fun vs H Q _ => ∃ d l : Addr, vs = [.ref d] ∧ Deck H d l ∧ ∀ g H', 0 < g → g ≤ 1000 → Step d l H H' → Q (.int g) H'
def spPointW (K : PySem.W.Frag) : Sp := fun vs H Q _ => ∃ (d l : Addr) (g way : Int), vs = [.ref d, .int g, .int way] ∧ 0 < g ∧ g ≤ 1000 ∧ Deck H d l ∧
  ∀ w H' p, Step d l H H' → At2 K H' w p → BdN 5000 p → Q w H'
def spLineW (K : PySem.W.Frag) : Sp := fun vs H Q _ => ∃ (d l : Addr) (g : Int) (L : Addr) (ws : List V) (ls : List Ln), vs = [.ref d, .int g, .ref L] ∧ 0 < g ∧ g ≤ 1000 ∧ Deck H d l ∧
  L ≠ d ∧ L ≠ l ∧ H L = some (.lst ws) ∧ AllAt (AtL K H) ws ls ∧ ls.length ≤ 10 ∧
  ∀ w H' r', Step d l H H' → AtL K H' w r' → BdR 60000 r' → Q w H'
def spLinesW (K : PySem.W.Frag) : Sp := fun vs H Q _ => ∃ (d l : Addr) (g : Int) (n : Nat), vs = [.ref d, .int g, .int n] ∧ 0 < g ∧ g ≤ 1000 ∧ 0 < n ∧ n ≤ 10 ∧ Deck H d l ∧
  ∀ w H' ls, Step d l H H' → AtT K H' w ls → ls.length = n → (∀ r ∈ ls, BdR 60000 r) → Q w H'
def mvL (dx dy : Int) (r : Ln) : Ln := ((r.1.1 + dx, r.1.2 + dy), (r.2.1 + dx, r.2.2 + dy))
def spMovedW (K : PySem.W.Frag) : Sp := fun vs H Q _ => ∃ (v : V) (ls : List Ln) (dx dy : Int), vs = [v, .int dx, .int dy] ∧ AtT K H v ls ∧ ls.length ≤ 900 ∧
  ∀ w H', Same H H' → AtT K H' w (ls.map (mvL dx dy)) → Q w H'
def spNearestW (K : PySem.W.Frag) : Sp := fun vs H Q _ => ∃ (g : Int) (v : V) (s : S3), vs = [.int g, v] ∧ At3 K H v s ∧ 0 < g ∧ g ≤ 1000 ∧ s.2.2 = 16 ∧
  ∀ w H' p, Same H H' → At2 K H' w p → Q w H'
def spSharesW (K : PySem.W.Frag) : Sp := fun vs H Q _ => ∃ g v r u c, vs = [.int g, v, u] ∧ AtL K H v r ∧ At2 K H u c ∧ 0 < g ∧ g ≤ 1000 ∧ BdR 1100000 r ∧ BdN 1000000 c ∧
  ∀ L H' vs ps, Same H H' → H' L = some (.lst vs) → AllAt (At2 K H') vs ps → (ps ≠ [] ↔ Meets g r c) → Q (.ref L) H'
def spFarW : Sp := fun vs H Q _ => ∃ (d l : Addr), vs = [.ref d] ∧ Deck H d l ∧ ∀ v H', -1000000 ≤ v → v ≤ 1000000 → Step d l H H' → Q (.int v) H'
def spSomeW (K : PySem.W.Frag) : Sp := fun vs H Q _ => ∃ (d l : Addr) (g : Int), vs = [.ref d, .int g] ∧ 0 < g ∧ g ≤ 1000 ∧ Deck H d l ∧
  ∀ w H' r, Step d l H H' → AtL K H' w r → BdR 1100000 r → Q w H'
def spNearW (K : PySem.W.Frag) : Sp := fun vs H Q _ => ∃ (d l : Addr) (g : Int) (v : V) (r : Ln), vs = [.ref d, .int g, v] ∧ 0 < g ∧ g ≤ 1000 ∧ Deck H d l ∧ AtL K H v r ∧
  ∀ w H' c, Step d l H H' → At2 K H' w c → BdN 1000000 c → Q w H'
def AtLC (K : PySem.W.Frag) (H : Hp) (v : V) (x : Ln × Pt) : Prop := ∃ a u w, v = .ref a ∧ SqT K H a [u, w] ∧ AtL K H u x.1 ∧ At2 K H w x.2
theorem AtLC.same {K : PySem.W.Frag} {H H' : Hp} {v : V} {x : Ln × Pt} (h : AtLC K H v x) (s : Same H H') : AtLC K H' v x := by
  obtain ⟨a, u, w, rfl, h1, h2, h3⟩ := h
  exact ⟨a, u, w, rfl, seT s h1, h2.same s, h3.same s⟩
theorem AtLC.upd {K : PySem.W.Frag} {H : Hp} {M : Addr} {xs : List V} {o : HO} {v : V} {x : Ln × Pt} (h : AtLC K H v x) (e : H M = some (.lst xs)) : AtLC K (L2.upd H M o) v x := by
  obtain ⟨a, u, w, rfl, h1, h2, h3⟩ := h
  exact ⟨a, u, w, rfl, updT e h1, h2.upd e, h3.upd e⟩
def spTurnedW (K : PySem.W.Frag) : Sp := fun vs H Q _ => ∃ (g : Int) (v : V) (r : Ln) (u : V) (c : Pt) (b : Addr) (i j : Int), vs = [.int g, v, u, .ref b] ∧ AtL K H v r ∧ At2 K H u c ∧ H b = some (.lst [.int i, .int j]) ∧
  0 < g ∧ g ≤ 1000 ∧ BdR 1100000 r ∧ BdN 1000000 c ∧ -10 ≤ i ∧ i ≤ 10 ∧ -10 ≤ j ∧ j ≤ 10 ∧
  ∀ L H' vs ps, Same H H' → H' L = some (.lst vs) → AllAt (AtLC K H') vs ps → (∀ x ∈ ps, BdW g x.1 x.2 ∧ (Meets g x.1 x.2 ↔ Meets g r c)) → Q (.ref L) H'
theorem cut_init (xs : List V) : cutV xs none (some (-1)) = xs.dropLast := by
  unfold cutV
  have e : HT.sIx xs.length xs.length (some (-1)) = xs.length - 1 := by
    show (if (-1 : Int) < 0 then ((-1 : Int) + (xs.length : Int)).toNat else min (-1 : Int).toNat xs.length) = _
    rw [if_pos (by decide)]
    omega
  rw [HT.sIx_none, e, List.drop_zero, Nat.sub_zero, List.dropLast_eq_take]
theorem cut_tail (xs : List V) : cutV xs (some 1) none = xs.tail := by rw [cut_rest, List.drop_one]
section
variable {X : Cx}
theorem cr_sortedIN : CallR X (.builtin "sorted") (fun vs H Q => ∃ (a : Addr) (ns : List Int), vs = [V.ref a] ∧ SqL X.K H a (ns.map V.int) ∧ ∀ ns' : List Int, ns'.Perm ns → ns'.Pairwise (· ≤ ·) → New H (.lst (ns'.map V.int)) Q) :=
  fun pins s σ H vs us Q I r ⟨a, ns, h1, h2, q⟩ => cr_sortedI pins s σ H vs us Q I r ⟨a, ns, h1, h2, fun ns' p h3 h4 n => (q ns' h3 h4).go p n⟩
def rRepN : R2 := fun x y H Q => ∃ l k xs, x = .ref l ∧ y = .int k ∧ H l = some (.lst xs) ∧ -(2 ^ 63) ≤ k ∧ k < 2 ^ 63 ∧ xs.length * k.toNat ≤ sizeLine ∧ New H (.lst (List.replicate k.toNat xs).flatten) Q
theorem op_repN : OpR X (binaryOp .Mult) rRepN := fun pins s σ H x y v u Q I rx ry ⟨l, k, xs, h1, h2, h3, h4, h5, h6, q⟩ => op_rep pins s σ H x y v u Q I rx ry ⟨l, k, xs, h1, h2, h3, h4, h5, h6, q.go⟩
end
section
variable {X : Cx}
theorem cut_whole {xs : List V} {lo hi : Option Int} (h : HT.sIx xs.length 0 lo = 0 ∧ HT.sIx xs.length xs.length hi = xs.length) : cutV xs lo hi = xs := by
  unfold cutV
  rw [h.1, h.2, List.drop_zero, Nat.sub_zero, List.take_length]
/-- t[lo:hi] of a tuple, a new one or itself -/
def rSlTB (K : PySem.W.Frag) : V → Option Int → Option Int → Hp → VK → Prop := fun x lo hi H Q => ∃ a xs, x = .ref a ∧ SqT K H a xs ∧ ∀ p H', Same H H' → SqT K H' p (cutV xs lo hi) → Q (.ref p) H'
theorem sl_tupB : SlR X (rSlTB X.K) := fun pins s σ H x v vl vu lo hi sl Q I rx hs pl pu ⟨a, xs, h1, h2, q⟩ =>
  sl_tupA pins s σ H x v vl vu lo hi sl Q I rx hs pl pu ⟨a, xs, h1, h2, fun hw => q a H (.refl _) (by rw [cut_whole hw]; exact h2), fun _ p n => q p _ (same_new n) (.inl (.inl upd_same))⟩
/-- t + u of tuples, a new one or one of them -/
def rCatTB (K : PySem.W.Frag) : R2 := fun x y H Q => ∃ a b xs ys, x = .ref a ∧ y = .ref b ∧ SqT K H a xs ∧ SqT K H b ys ∧ xs.length + ys.length ≤ sizeLine ∧ ∀ p H', Same H H' → SqT K H' p (xs ++ ys) → Q (.ref p) H'
theorem op_catTB : OpR X (binaryOp .Add) (rCatTB X.K) := fun pins s σ H x y v u Q I rx ry ⟨a, b, xs, ys, h1, h2, h3, h4, h5, q⟩ =>
  op_catA pins s σ H x y v u Q I rx ry ⟨a, b, xs, ys, h1, h2, h3, h4, h5, fun e => q b H (.refl _) (by rw [e]; exact h4), fun _ e => q a H (.refl _) (by rw [e, List.append_nil]; exact h3), fun _ _ p n => q p _ (same_new n) (.inl (.inl upd_same))⟩
end
theorem small64' {n : Nat} (h : n ≤ 100) : n ≤ sizeLine := by
  have : sizeLine = 16777216 := by decide
  omega
/-- over zip of two lists -/
def lcZ {K : PySem.W.Frag} {a b : Addr} {xs ys : List V} {n : Nat} {g : TG} {tt : TT} {te : TE} {vs : List Nat} {σ : L2.St} {H1 : Hp} {D : Addr} {Qd : Hp → Prop} (hn : n = min xs.length ys.length)
    (Pv : Nat → Hp → Prop) (hD : H1 D = none) (h0 : ∀ H', Same H1 H' → H' D = some (.lst []) → Pv 0 H') (hG : ∀ i H, i ≤ n → Pv i H → SqL K H a xs ∧ SqL K H b ys)
    (hs : ∀ i x H H', i < n → Pv i H → YPair (fun i => xs[i]?) (fun i => ys[i]?) i H x H' → g x (wipe σ vs) H' fun σ2 H2 => wipe σ2 vs = wipe σ vs ∧ tt σ2 H2 fun b H3 =>
      if b = true then te σ2 H3 fun y H4 => ∃ acc, H4 D = some (.lst acc) ∧ acc.length < sizeLine ∧ Pv (i + 1) (upd H4 D (.lst (acc ++ [y]))) else Pv (i + 1) H3)
    (hd : ∀ H, Pv n H → Qd H) := lc_it (walk_zip (K := K) (a := a) (b := b) hn) (g := g) (tt := tt) (te := te) (vs := vs) (σ := σ) (H1 := H1) (D := D) (Qd := Qd) Pv (h0 _ (same_new hD) upd_same) hG hs hd
/-! ### the shares that the law tries -/
def ab (z : Int) : Int := if z < 0 then -z else z
def m1 (z : Int) : Int := if ab z > 1 then ab z else 1
def sgn (z : Int) : Int := if z > 0 then 1 else -1
def crs (first way W side : Int) : Int := (side - first) * (W / ab way) * sgn way
def crsR (g first way k W : Int) : List Int := if way ≠ 0 then [crs first way W (rimL g k), crs first way W (rimH g k)] else []
def wh (r : Ln) : Int := m1 (2 * (r.2.1 - r.1.1)) * m1 (2 * (r.2.2 - r.1.2))
def raw (g : Int) (r : Ln) (c : Pt) : List Int := [0, wh r] ++ crsR g (2 * r.1.1) (2 * (r.2.1 - r.1.1)) c.1 (wh r) ++ crsR g (2 * r.1.2) (2 * (r.2.2 - r.1.2)) c.2 (wh r)
def inB (g first way k W s : Int) : Bool := decide (2 * (2 * k - 1) * g * W ≤ first * 2 * W + way * s) && decide (first * 2 * W + way * s < 2 * (2 * k + 1) * g * W)
theorem ab_pos {z : Int} (h : z ≠ 0) : 0 < ab z := by unfold ab; split <;> omega
theorem m1_pos (z : Int) : 0 < m1 z := by unfold m1 ab; split <;> omega
theorem m1_of {z : Int} (h : z ≠ 0) : m1 z = ab z := by unfold m1 ab; split <;> (split <;> omega)
theorem m1_le {z B : Int} (h1 : -B ≤ z) (h2 : z ≤ B) (hB : 1 ≤ B) : m1 z ≤ B := by unfold m1 ab; split <;> (split <;> omega)
theorem wh_pos (r : Ln) : 0 < wh r := Int.mul_pos (m1_pos _) (m1_pos _)
theorem wh_le {r : Ln} (h : BdR 1100000 r) : wh r ≤ 2 ^ 45 := by
  obtain ⟨h1, h2⟩ := h
  unfold BdN at h1 h2
  have a1 := m1_le (z := 2 * (r.2.1 - r.1.1)) (B := 4400000) (by omega) (by omega) (by omega)
  have a2 := m1_le (z := 2 * (r.2.2 - r.1.2)) (B := 4400000) (by omega) (by omega) (by omega)
  have := Int.mul_le_mul a1 a2 (Int.le_of_lt (m1_pos _)) (by omega)
  unfold wh
  omega
theorem crs_eq {first way W side : Int} (hw : way ≠ 0) (hd : ab way ∣ W) : way * crs first way W side = (side - first) * W := by
  unfold crs
  obtain ⟨q, rfl⟩ := hd
  rw [Int.mul_ediv_cancel_left _ (by have := ab_pos hw; omega)]
  unfold ab sgn
  by_cases h : 0 < way
  · rw [if_pos (show way > 0 from h), if_neg (show ¬ way < 0 by omega)]
    generalize side - first = A
    rw [Int.mul_one, Int.mul_left_comm]
  · rw [if_neg (show ¬ way > 0 from h), if_pos (show way < 0 by omega)]
    generalize side - first = A
    rw [Int.mul_neg, Int.mul_one, Int.mul_neg, Int.neg_mul, Int.mul_neg, Int.mul_left_comm]
theorem ab_dvd1 {r : Ln} (h : 2 * (r.2.1 - r.1.1) ≠ 0) : ab (2 * (r.2.1 - r.1.1)) ∣ wh r := by
  unfold wh
  rw [← m1_of h]
  exact Int.dvd_mul_right _ _
theorem ab_dvd2 {r : Ln} (h : 2 * (r.2.2 - r.1.2) ≠ 0) : ab (2 * (r.2.2 - r.1.2)) ∣ wh r := by
  unfold wh
  rw [← m1_of h]
  exact Int.dvd_mul_left _ _
theorem inB_iff (g start step k W s : Int) : inB g (2 * start) (2 * step) k W s = true ↔ HO1 g start step k s (2 * W) := by
  unfold inB HO1
  rw [Bool.and_eq_true, decide_eq_true_eq, decide_eq_true_eq]
  have e1 : 2 * (2 * k - 1) * g * W = (2 * k - 1) * g * (2 * W) := by grind
  have e2 : 2 * (2 * k + 1) * g * W = (2 * k + 1) * g * (2 * W) := by grind
  have e3 : 2 * start * 2 * W + 2 * step * s = 2 * (start * (2 * W) + step * s) := by grind
  rw [e1, e2, e3]
def keepS (W s : Int) : Bool := decide (0 ≤ s) && decide (s ≤ W)
def mids (L : List Int) : List Int := (L.dropLast.zip L.tail).map fun z => (z.1 + z.2) / 2
def inC (g : Int) (r : Ln) (c : Pt) (s : Int) : Bool := inB g (2 * r.1.1) (2 * (r.2.1 - r.1.1)) c.1 (wh r) s && inB g (2 * r.1.2) (2 * (r.2.2 - r.1.2)) c.2 (wh r) s
theorem shares_end {g : Int} {r : Ln} {c : Pt} {L T : List Int} (hp : L.Perm (((raw g r c).filter (keepS (wh r))).map fun s => 2 * s)) (hs : L.Pairwise (· ≤ ·)) (ht : T.Perm (L ++ mids L)) :
    (T.filter (inC g r c) ≠ [] ↔ Meets g r c) := by
  have W0 := wh_pos r
  have mem : ∀ s, keepS (wh r) s = true → s ∈ raw g r c → 2 * s ∈ L := fun s h1 h2 => hp.mem_iff.mpr (List.mem_map.mpr ⟨s, List.mem_filter.mpr ⟨h2, h1⟩, rfl⟩)
  have kp : ∀ s : Int, 0 ≤ s → s ≤ wh r → keepS (wh r) s = true := fun s h1 h2 => by unfold keepS; rw [decide_eq_true h1, decide_eq_true h2]; rfl
  have t := tried (g := g) (r := r) (c := c) W0 hs (fun s hs => by
    obtain ⟨x, hx, rfl⟩ := List.mem_map.mp (hp.mem_iff.mp hs)
    have k := (List.mem_filter.mp hx).2
    unfold keepS at k
    rw [Bool.and_eq_true, decide_eq_true_eq, decide_eq_true_eq] at k
    exact ⟨x, rfl, k.1, k.2⟩) (by have := mem 0 (kp 0 (by omega) (by omega)) (by simp [raw]); simpa using this) (mem (wh r) (kp _ (by omega) (by omega)) (by simp [raw]))
    (fun hx side hside => by
      have h2 : 2 * (r.2.1 - r.1.1) ≠ 0 := by omega
      refine ⟨crs (2 * r.1.1) (2 * (r.2.1 - r.1.1)) (wh r) side, crs_eq h2 (ab_dvd1 h2), fun k0 k1 => mem _ (kp _ k0 k1) ?_⟩
      unfold raw crsR
      rw [if_pos h2]
      simp only [List.mem_cons, List.not_mem_nil, or_false] at hside
      rcases hside with rfl | rfl <;> simp)
    (fun hx side hside => by
      have h2 : 2 * (r.2.2 - r.1.2) ≠ 0 := by omega
      refine ⟨crs (2 * r.1.2) (2 * (r.2.2 - r.1.2)) (wh r) side, crs_eq h2 (ab_dvd2 h2), fun k0 k1 => mem _ (kp _ k0 k1) ?_⟩
      unfold raw crsR
      rw [if_pos h2]
      simp only [List.mem_cons, List.not_mem_nil, or_false] at hside
      rcases hside with rfl | rfl <;> simp)
  rw [t]
  have hin : ∀ s, inC g r c s = true ↔ HOc g r c s (2 * wh r) := fun s => by
    unfold inC HOc
    rw [Bool.and_eq_true, inB_iff, inB_iff]
  constructor
  · intro hne
    obtain ⟨s, hs⟩ := List.exists_mem_of_ne_nil _ hne
    obtain ⟨h1, h2⟩ := List.mem_filter.mp hs
    exact ⟨s, ht.mem_iff.mp h1, (hin s).mp h2⟩
  · rintro ⟨s, h1, h2⟩ e
    have : s ∈ T.filter (inC g r c) := List.mem_filter.mpr ⟨ht.mem_iff.mpr h1, (hin s).mpr h2⟩
    rw [e] at this
    cases this
theorem AllAt.one {α : Type} {R : V → α → Prop} {vs : List V} {x : α} (h : AllAt R vs [x]) : ∃ v, vs = [v] ∧ R v x := by
  match vs, h with
  | [v], .cons h .nil => exact ⟨v, rfl, h⟩
theorem shapedPts (ps : List Pt) : SeqAt.shaped (.list (ps.map pd)) = true := by
  have h1 : ∀ ps : List Pt, PyData.canLayAll0 (ps.map pd) = true := by
    intro ls
    induction ls with
    | nil => rfl
    | cons n r ih => simp [PyData.canLayAll0, PyData.canLay0, pd, ih]
  have h2 : ∀ ps : List Pt, PyData.depthAll (ps.map pd) ≤ 1 := by
    intro ls
    induction ls with
    | nil => decide
    | cons n r ih =>
      simp only [List.map_cons, PyData.depthAll]
      have : (pd n).depth = 1 := by simp [pd, PyData.depth, PyData.depthAll]
      omega
  have h3 := h2 ps
  simp [SeqAt.shaped, PyData.canLay0, PyData.depth, h1]
  omega
theorem eqvNilP (ps : List Pt) : PyData.eqv (.list (ps.map pd)) (.list []) = ps.isEmpty := by
  cases ps <;> simp [PyData.eqv, PyData.eqvAll]
theorem pts_dp {K : PySem.W.Frag} {H : Hp} : ∀ {ws : List V} {ps : List Pt}, AllAt (At2 K H) ws ps → DpAll K H ws (ps.map pd)
  | _, _, .nil => .nil
  | _, _, .cons h t => .cons h.dp (pts_dp t)
end Cl

namespace Cl
open PySem PySem.Spec PyProof.Rows L2
/-! ### enumerate(tuple) -/
set_option maxHeartbeats 1000000 in
theorem meets_enum1B {v : Value} {o : Obj} {H : Heap → Prop} (B : Begins v o H) :
    _root_.PySem.Meets (Builtin.«enumerate.__new__» ⟨[.type "enumerate", v], []⟩) (fun _ R s => H s.heap ∧
      R (.ok (.ret (.ref (s.heap.push o).objs.size))) { s with heap := (s.heap.push o).push { cls := .type "enumerate", data := .fields #[.none, .bool false, .ref s.heap.objs.size, rawInt 0, .none, .none] } }) :=
  .of_wp fun prog w A R s h => by
    obtain ⟨hp, g, d, tk, os⟩ := s; obtain ⟨h1, h⟩ := h
    have hsub := sub_enumerate
    have q1 : ∀ {A' : Around} {E : Value → Shared → Prop} {Q : Value → Shared → Prop}, Q (.ref hp.objs.size) ⟨hp.push o, g, d, tk, os⟩ → wpAny (model prog w) A' (pyIter v) Q E ⟨hp, g, d, tk, os⟩ :=
      fun q => B.iter prog w _ _ ⟨hp, g, d, tk, os⟩ _ h1 q
    wp_walk using q1
    refine wpAny_stack_any fun st => wpAny_pure ?_
    split
    · rename_i c _ _ _ _ _
      cases (c == Value.type "enumerate")
      · wp_walk using q1
        exact ⟨_, rfl, h⟩
      · wp_walk using q1
        exact ⟨_, rfl, h⟩
    · wp_walk using q1
      exact ⟨_, rfl, h⟩
theorem enum_begins1 {prog : Program} {w : World} {A : Around} {E : Value → Shared → Prop} {s : Shared} {v : Value} {o : Obj} {H : Heap → Prop} {Q : Value → Shared → Prop} (B : Begins v o H) (h1 : H s.heap)
    (h : ∀ h', IsEnum h' (s.heap.objs.size + 1) s.heap.objs.size 0 .none → h'.get? s.heap.objs.size = some o → h'.objs.size = s.heap.objs.size + 2 →
      (∀ b o, s.heap.get? b = some o → h'.get? b = some o) → Q (.ref (s.heap.objs.size + 1)) { s with heap := h' }) :
    wpAny (model prog w) A (call (.type "enumerate") [v]) Q E s := by
  refine callType_new F.called_enumerate (by decide) (F.typeCall_enumerate_1 _) (F.newCall_enumerate_1 _) (fun obj => F.args_object_init_2 obj _) F.entry_enumerate_new
    (meets_enum1B B) ⟨h1, ?_⟩
  have hz : (s.heap.push o).objs.size = s.heap.objs.size + 1 := Heap.size_push ..
  show _ ∧ _
  rw [hz]
  have he : IsEnum ((s.heap.push o).push { cls := .type "enumerate", data := .fields #[.none, .bool false, .ref s.heap.objs.size, rawInt 0, .none, .none] }) (s.heap.objs.size + 1) s.heap.objs.size 0 .none := by
    have := Heap.get?_push_size (s.heap.push o) (o := { cls := .type "enumerate", data := .fields #[.none, .bool false, .ref s.heap.objs.size, rawInt 0, .none, .none] }) rfl
    rw [hz] at this; exact this
  refine ⟨⟨_, he, rfl⟩, h _ he (Heap.get?_push_of_some _ (Heap.get?_push_size _ B.free)) (by rw [Heap.size_push, hz]) fun b o x => Heap.get?_push_of_some _ (Heap.get?_push_of_some _ x)⟩
def Iet (K : PySem.W.Frag) (a : Addr) : It :=
  ⟨fun i H => ∃ (xs : List V) (x : V), SqT K H a xs ∧ xs[i]? = some x, fun i H v H' => ∃ T x, v = .ref T ∧ H T = none ∧ H' = upd H T (.tup [.int (i : Nat), x]) ∧ ∀ xs, SqT K H a xs → xs[i]? = some x, fun i H => ∃ xs : List V, SqT K H a xs ∧ xs.length = i⟩
theorem turn_enumT {P : Program} {w : World} {K : PySem.W.Frag} {elts : List Expr} {kk : Nat} {tpos : Pos} {a e it : Addr} (hei : e ≠ it) (hea : e ≠ a) (hia : it ≠ a) :
    Turn P w K (.Tuple elts kk tpos) (Iet K a) [e, it] e (fun i h => (∃ old, IsEnum h e it ((i : Nat) : Int) old) ∧ h.IsTupleIter it a i) where
  mem := by simp
  obj := fun i h st b hb => by
    obtain ⟨⟨old, he⟩, ⟨o, ho, hc, hd⟩⟩ := st
    have e' : b = e ∨ b = it := by simpa using hb
    rcases e' with z | z
    · rw [z]; exact ⟨_, he, fun v q => nomatch q⟩
    · rw [z]; exact ⟨o, ho, fun v q => by rw [hd] at q; cases q⟩
  keep := fun i h h' st k => let ⟨⟨old, he⟩, hi⟩ := st; ⟨⟨old, k e (by simp) _ he⟩, hi.at fun o q => k it (by simp) o q⟩
  item := by
    intro X hP hw hK hc i pins s σ H E I hf st hg
    subst hP hw hK
    obtain ⟨⟨old, he⟩, hit⟩ := st
    obtain ⟨xs, x, hq, hx⟩ := hg
    obtain ⟨its, rv, p, hz⟩ := I.tuple hq
    obtain ⟨u, hu, ru⟩ := rv.get hx
    have hl := rv.length
    have hlt : i < xs.length := (List.getElem?_eq_some_iff.mp hx).1
    have hh : X.A.in1.handled = none := I.ok.hd hc
    have W := GoesN.enumFrom (elts := elts) (x1 := kk) (pos := tpos) 0 (Draws.tuple (prog := X.prog) (w := X.w) hh it a (Ne.symm hia) its.toArray) e hei (by simp [hei, hea]) (by simp)
    refine W.goes i s _ E (by simp; omega) ⟨⟨old, by rw [Int.zero_add]; exact he⟩, hit, p⟩ fun v h' tk hY st' hk htk => ?_
    obtain ⟨T, t, y, rfl, hT, hy, hTup⟩ := hY
    obtain ⟨⟨old', he'⟩, hit', _⟩ := st'
    rw [Int.zero_add] at hTup he'
    have ey : u = y := by
      have h1 : its.toArray[i]? = some y := hy
      have h2 : its[i]? = some y := by simpa using h1
      rw [hu] at h2
      exact Option.some.inj h2
    subst ey
    have new : ObjOk X.prog X.w (upd H T (.tup [.int (i : Nat), x])) h' T (.tup [.int (i : Nat), x]) :=
      ⟨by show 2 ≤ sizeLine; decide, [_, u], .cons ⟨_, rfl⟩ (.cons ru .nil), hTup⟩
    have I1 := I.turnedNew (t' := tk) (ch := [e, it]) (fun d o hd q => hk d o hd q) hf hT new
    refine ⟨.ref T, _, I1, rfl, ⟨T, x, rfl, I.hok.fresh hT, rfl, fun ys hy => by rw [I.tuple_inj hy hq]; exact hx⟩, ⟨⟨old', he'⟩, hit'⟩, fun b hb => ?_⟩
    have hb' : b < s.heap.objs.size := by
      have e' : b = e ∨ b = it := by simpa using hb
      rcases e' with z | z
      · rw [z]; exact Heap.lt_size he
      · rw [z]; obtain ⟨_, q, _⟩ := hit; exact Heap.lt_size q
    rw [upd_ne (Nat.ne_of_lt (Nat.lt_of_lt_of_le hb' hT))]
    exact (hf b hb).1
  done := by
    intro X hP hw hK hc i pins s σ H E I hf st hg
    subst hP hw hK
    obtain ⟨⟨old, he⟩, hit⟩ := st
    obtain ⟨xs, hq, hx⟩ := hg
    obtain ⟨its, rv, p, hz⟩ := I.tuple hq
    have hl := rv.length
    have hh : X.A.in1.handled = none := I.ok.hd hc
    have W := GoesN.enumFrom (elts := elts) (x1 := kk) (pos := tpos) 0 (Draws.tuple (prog := X.prog) (w := X.w) hh it a (Ne.symm hia) its.toArray) e hei (by simp [hei, hea]) (by simp)
    have hi : i = its.toArray.size := by simp; omega
    subst hi
    exact W.stops s _ E ⟨⟨old, by rw [Int.zero_add]; exact he⟩, hit, p⟩ fun h' tk hk htk => I.turnedL (t' := tk) (ch := [e, it]) (fun d o hd q => hk d o hd q) hf
  self := fun A i s Q E st h => let ⟨⟨_, he⟩, _⟩ := st; wpAny_pyIter_enum he h
def iEnumT (K : PySem.W.Frag) (ta : TA) : TI := fun σ H R => ta σ H fun vs H1 => ∃ a xs, vs = [.ref a] ∧ SqT K H1 a xs ∧ R (Iet K a) H1
theorem pi_enumT {X : Cx} {e : Expr} {ta : TA} {p pos tpos : Pos} {elts : List Expr} {kk : Nat} (hg : Gl X "enumerate") (hm : X.mg "enumerate" = none) (ha : PA X [e] ta) (hs : starEach [e] X.env = [(false, eval e X.env)] := by rfl) :
    PI X (.Tuple elts kk tpos) (.Call (.Name "enumerate" p) [e] [] pos) (iEnumT X.K ta) := by
  refine ⟨fun pins s σ H R I h => ?_⟩
  refine Call_ (ld_blt I hg hm boot_enumerate (PyProof.Rows.callWith_type1 (thn (ha.run pos pins s σ H _ I h) fun us s1 ⟨vs, H1, I1, r1, q1⟩ => ?_) hs rfl))
  obtain ⟨a, xs, ex, hq, q⟩ := q1
  subst ex
  cases r1 with
  | cons r rr =>
    cases rr
    cases r
    obtain ⟨its, rv, p', hz⟩ := I1.tuple hq
    have la : a < s1.heap.objs.size := by obtain ⟨o1, g1, _⟩ := id p'; exact Heap.lt_size g1
    refine enum_begins1 (begins_tuple a its.toArray) p' fun h' he hit hsz hk => wpAny_pyIter_enum he ?_
    have I2 : Inv X pins σ H1 { s1 with heap := h' } := I1.kept (t' := s1.toks) hk
    refine ⟨s1.heap.objs.size + 1, [s1.heap.objs.size + 1, s1.heap.objs.size], _, _, H1, rfl, I2, turn_enumT (Nat.succ_ne_self _) (Nat.ne_of_gt (Nat.lt_succ_of_lt la)) (Nat.ne_of_gt la), ⟨⟨.none, he⟩, ⟨_, hit, rfl, rfl⟩⟩, fun b hb => ?_, q⟩
    have e' : b = s1.heap.objs.size + 1 ∨ b = s1.heap.objs.size := by simpa using hb
    have hle : s1.heap.objs.size ≤ b := by
      rcases e' with z | z
      · rw [z]; exact Nat.le_add_right _ _
      · rw [z]; exact Nat.le_refl _
    exact I1.fpOk hle (I1.hok.fresh hle)
theorem for_enumT {K : PySem.W.Frag} {a : Addr} {xs : List V} {g : TG} {tb : TS} {D : Ends} {σ : L2.St} {H : Hp} (Pv : Nat → L2.St → Hp → Prop) (h0 : Pv 0 σ H) (hq : ∀ i σ H, Pv i σ H → SqT K H a xs)
    (hs : ∀ (i : Nat) (x : V) (T : Addr) (σ : L2.St) (H : Hp), xs[i]? = some x → Pv i σ H → H T = none → g (.ref T) σ (upd H T (.tup [.int (i : Nat), x])) fun σ2 H2 => tb { D with nx := Pv (i + 1), ct := Pv (i + 1), bk := D.nx } σ2 H2) (hd : ∀ σ H, Pv xs.length σ H → D.nx σ H) :
    ∃ W : Nat → Nat → L2.St → Hp → Prop, (∃ m, W 0 m σ H) ∧ ∀ i m σ H, W i m σ H →
      ((Iet K a).stop i H ∧ D.nx σ H) ∨ ((Iet K a).go i H ∧ ∃ N : L2.St → Hp → Prop, (∀ σ' H', N σ' H' → ∃ m', m' < m ∧ W (i + 1) m' σ' H') ∧ ∀ v H', (Iet K a).yld i H v H' → g v σ H' fun σ2 H2 => tb { D with nx := N, ct := N, bk := D.nx } σ2 H2) := by
  refine ⟨fun i m σ H => m = xs.length - i ∧ i ≤ xs.length ∧ Pv i σ H, ⟨xs.length, rfl, Nat.zero_le _, h0⟩, ?_⟩
  rintro i m σ H ⟨rfl, hi, p⟩
  have qx := hq i σ H p
  by_cases hlt : i < xs.length
  · refine .inr ⟨⟨xs, xs[i], qx, List.getElem?_eq_getElem hlt⟩, Pv (i + 1), fun σ' H' p' => ⟨xs.length - (i + 1), by omega, rfl, hlt, p'⟩, fun v H' y => ?_⟩
    obtain ⟨T, x', rfl, hT, rfl, f1⟩ := y
    exact hs i x' T σ H (f1 xs qx) p hT
  · have e : i = xs.length := by omega
    subst e
    exact .inl ⟨⟨xs, qx, rfl⟩, hd σ H p⟩
/-! ### xs == [] -/
def rEqNil (K : PySem.W.Frag) : R2 := fun x y H Q => ∃ a b xs, x = .ref a ∧ y = .ref b ∧ SqL K H a xs ∧ SqL K H b [] ∧ Q (.bl xs.isEmpty) H
theorem op_eqNil {X : Cx} (hu : X.A.units + 64 < cLine) : OpR X (compareOp .Eq) (rEqNil X.K) := by
  intro pins s σ H x y v u Q I rx ry h
  obtain ⟨a, b, xs, rfl, rfl, ha, hb, q⟩ := h
  cases rx
  cases ry
  obtain ⟨its, rv, p, _⟩ := I.list ha
  obtain ⟨its2, rv2, p2, _⟩ := I.list hb
  cases rv2
  cases xs with
  | nil =>
    cases rv
    refine SeqAt.eq_listAt (e := fun _ => true) p.isList p2.isList rfl (by omega) (fun j h1 _ => absurd h1 (Nat.not_lt_zero _)) ?_
    exact ⟨.bl _, H, I, rfl, q⟩
  | cons x xs =>
    have hl := rv.length
    refine SeqAt.eq_list_lengthsAt p.isList p2.isList ?_ (by omega) ?_
    · rw [bne_iff_ne]
      simp only [List.size_toArray, List.length_nil]
      rw [← hl]
      simp
    · exact ⟨.bl _, H, I, rfl, q⟩
def rNeNil (K : PySem.W.Frag) : R2 := fun x y H Q => ∃ a b xs, x = .ref a ∧ y = .ref b ∧ SqL K H a xs ∧ SqL K H b [] ∧ Q (.bl (!xs.isEmpty)) H
section
variable {X : Cx} {K : PySem.W.Frag}
theorem op_eqNilk (hK : X.K = K) (hu : X.A.units + 64 < cLine) : OpR X (compareOp .Eq) (rEqNil K) := hK ▸ op_eqNil hu
theorem op_catTBk (hK : X.K = K) : OpR X (binaryOp .Add) (rCatTB K) := hK ▸ op_catTB
theorem call_reprk (hK : X.K = K) (hg : X.A.guards = some []) (hu : X.A.units + 64 < cLine) : CallR X (.builtin "repr") (rReprF K) := hK ▸ call_repr hg hu
theorem sl_tupBk (hK : X.K = K) : SlR X (rSlTB K) := hK ▸ sl_tupB
end
theorem acc_new {H5 H' : Hp} {pD : Addr} {ws : List V} {y : V} (nD : H5 pD = none) (t1 : Same H5 H') (e : H' pD = some (.lst ws)) (len : ws.length ≤ 900) :
    ∃ acc, H' pD = some (.lst acc) ∧ acc.length < sizeLine ∧ Same H5 (upd H' pD (.lst (acc ++ [y]))) ∧ (upd H' pD (.lst (acc ++ [y]))) pD = some (.lst (ws ++ [y])) := by
  refine ⟨ws, e, small1000 (by omega), fun b o z => ?_, upd_same⟩
  rw [upd_ne (ne_of_none z nD)]
  exact t1 _ _ z
theorem Same.seq {K : PySem.W.Frag} {H H' : Hp} {a : Addr} {xs : List V} (s : Same H H') (h : SqL K H a xs) : SqL K H' a xs := by
  rcases h with (h | ⟨o, h⟩) | h
  · exact .inl (.inl (s _ _ h))
  · exact .inl (.inr ⟨o, s _ _ h⟩)
  · exact .inr h
/-- a promise that nothing keeps: for a def's own calls at its last level -/
def spNever : Sp := fun _ _ _ _ => False
theorem never {P : Program} {w : World} {K : PySem.W.Frag} {mg : Str → Option Value} {base : Heap} {k : Nat} {f : Addr} {fd : FuncData} {ps : List Str} : FnG P w K mg base CX0 k f fd ps spNever :=
  ⟨fun _ _ _ _ h => h.elim, fun _ _ _ _ _ _ _ _ _ _ _ _ _ h => h.elim⟩
end Cl

namespace Cl
open PySem PySem.Spec PyProof.Rows L2
open GxR (TabB TabG Tabbed GenS inv_tab sh_eta)
/-! ### a tuple of tuples, walked -/
theorem letOwned_tupleiter {prog : Program} {w : World} {A : Around} {E : Value → Shared → Prop} {s : Shared} {elts : List Expr} {x1} {pos : Pos} {I l T : Addr} {i : Nat} {Q : Unit → Shared → Prop} (hit : s.heap.IsTupleIter I l i) (hQ : Q () s) :
    wpAny (model prog w) A (letOwnedTupleGo (.Tuple elts x1 pos) (.ref I) (.ref T)) Q E s := by
  obtain ⟨o, ho, hc, hd⟩ := hit
  unfold letOwnedTupleGo
  refine wpAny_bind (wpAny_load ho ?_)
  rw [hc, hd]
  show wpAny _ A (if (["enumerate", "zip", "dict_itemiterator", "dict_reverseitemiterator", "odict_iterator", "itertools.zip_longest", "itertools.pairwise"].contains "tuple_iterator" &&
      (#[.ref l, .int i 0] : Array Value)[0]? == some (rawInt T)) = true then _ else _) Q E s
  rw [if_neg (by
    intro h
    rw [show (["enumerate", "zip", "dict_itemiterator", "dict_reverseitemiterator", "odict_iterator", "itertools.zip_longest", "itertools.pairwise"].contains "tuple_iterator") = false from by decide, Bool.false_and] at h
    cases h)]
  exact wpAny_pure hQ
theorem walksTT {prog : Program} {w : World} {A : Around} (hh : A.handled = none) (I ax : Addr) (hne : ax ≠ I) (items : Array Value) (Ts : Nat → Addr) (vals : Nat → Array Value)
    (hit : ∀ j, j < items.size → items[j]? = some (.ref (Ts j))) (hTI : ∀ j, j < items.size → Ts j ≠ I) :
    WalksU prog w A I (I :: ax :: (List.range items.size).map Ts) [I] items.size (fun j v => j < items.size ∧ v = vals j)
      (fun j h => h.IsTupleIter I ax j ∧ h.IsTuple ax items ∧ ∀ k, k < items.size → h.IsTuple (Ts k) (vals k))
      (fun j T h => (j < items.size ∧ T = Ts j) ∧ h.IsTupleIter I ax (j + 1) ∧ h.IsTuple ax items ∧ ∀ k, k < items.size → h.IsTuple (Ts k) (vals k)) where
  sub := fun b hb => by simp at hb; simp [hb]
  frame := fun _ _ _ st hk => ⟨st.1.at fun o e => hk I (by simp) o e, st.2.1.at fun o e => hk ax (by simp) o e,
    fun k hk' => (st.2.2 k hk').at fun o e => hk (Ts k) (List.mem_cons_of_mem _ (List.mem_cons_of_mem _ (List.mem_map.mpr ⟨k, List.mem_range.mpr hk', rfl⟩))) o e⟩
  item := fun i s Q E hi st hQ => by
    refine wpAny_pyNext_tuple_item st.1 st.2.1 (x := .ref (Ts i)) (hit i hi) fun h' hit' hs' => ?_
    have tup : ∀ k, k < items.size → h'.IsTuple (Ts k) (vals k) := fun k hk' => (st.2.2 k hk').extBut hs'.extBut (hTI k hk')
    exact hQ (Ts i) (vals i) h' s.toks ⟨hi, rfl⟩ (tup i hi) ⟨⟨hi, rfl⟩, hit', st.2.1.extBut hs'.extBut hne, tup⟩ fun b o hb e => hs'.extBut b o (fun h => hb (by simp [h])) e
  go := fun _ _ _ _ _ s Q _ hm hQ => letOwned_tupleiter hm.2.1 (hQ s.heap hm.2 fun _ _ _ e => e)
  apart := fun j T _ hm hmem => by
    rcases List.mem_cons.mp hmem with e | e
    · exact hTI j hm.1.1 (hm.1.2 ▸ e)
    · cases e
  done := fun s Q E st hQ => wpAny_pyNext_tuple_end hh st.1 st.2.1 (by simp) fun h' he' => hQ h' s.toks fun b o hb e => he' b o (fun h => hb (by simp [h])) e
  self := fun _ _ _ _ st hQ => wpAny_pyIter_tupleiter st.1 hQ
/-! ### expressions of whole numbers, evaluated quietly -/
def Sees (P : Program) (w : World) (env : Env) (h : Heap) (e : Expr) (v : V) : Prop :=
  ∀ (A : Around) (E : Value → Shared → Prop) (Q : Value → Shared → Prop) (s : Shared), s.heap = h → (∀ u k, RelV v u → Q u { s with toks := k }) → wpAny (model P w) A (eval e env) Q E s
section
variable {P : Program} {w : World} {env : Env} {h : Heap} {x : Str} {a b : Expr} {i j : Int} {pos : Pos}
theorem sees_loc {m : Str → Option Value} {t : Tok} (hk : env.scope.kind = .function) (hl : env.scope.names.lookup x = some .local) (hn : h.Ns env.locals m) (hm : m x = some (.int i t)) (hd : (x == ("__debug__" : Str)) = false := by decide) : Sees P w env h (.Name x pos) (.int i) :=
  fun A E Q s hs q => wpAny_Name (wpAny_loadName_local hk hl (hs ▸ hn) hm (q _ s.toks ⟨t, rfl⟩)) hd
theorem sees_free {c : Addr} {t : Tok} (hk : env.scope.kind = .function) (hl : env.scope.names.lookup x = some .free) (hc : env.cells.lookup x = some c) (hv : h.IsCell c (some (.int i t))) (hd : (x == ("__debug__" : Str)) = false := by decide)
    (hcd : (x == ("__classdict__" : Str)) = false := by decide) : Sees P w env h (.Name x pos) (.int i) :=
  fun A E Q s hs q => wpAny_Name (wpAny_loadName_free hk hl hc (hs ▸ hv) (q _ s.toks ⟨t, rfl⟩) hcd) hd
theorem sees_int {k : Nat} : Sees P w env h (.Constant (.int i) k pos) (.int i) := fun A E Q s hs q => wpAny_Constant_int (q _ _ ⟨_, rfl⟩)
theorem sees_add (ha : Sees P w env h a (.int i)) (hb : Sees P w env h b (.int j)) : Sees P w env h (.BinOp a .Add b pos) (.int (i + j)) := fun A E Q s hs q => by
  refine wpAny_BinOp (ha A _ _ s hs fun u k r => hb A _ _ _ hs fun u' k' r' => ?_)
  obtain ⟨t, rfl⟩ := r
  obtain ⟨t', rfl⟩ := r'
  exact add_int (q _ _ ⟨_, rfl⟩)
theorem sees_mul (ha : Sees P w env h a (.int i)) (hb : Sees P w env h b (.int j)) (c : IntMulOk i j) : Sees P w env h (.BinOp a .Mult b pos) (.int (i * j)) := fun A E Q s hs q => by
  refine wpAny_BinOp (ha A _ _ s hs fun u k r => hb A _ _ _ hs fun u' k' r' => ?_)
  obtain ⟨t, rfl⟩ := r
  obtain ⟨t', rfl⟩ := r'
  exact mul_int (q _ _ ⟨_, rfl⟩) c
theorem sees_lt (ha : Sees P w env h a (.int i)) (hb : Sees P w env h b (.int j)) : Sees P w env h (.Compare a [.Lt] [b] pos) (.bl (decide (i < j))) := fun A E Q s hs q => by
  refine wpAny_Compare1 (ha A _ _ s hs fun u k r => hb A _ _ _ hs fun u' k' r' => ?_) (nomark b)
  obtain ⟨t, rfl⟩ := r
  obtain ⟨t', rfl⟩ := r'
  exact lt_int (q _ _ rfl)
theorem sees_gt (ha : Sees P w env h a (.int i)) (hb : Sees P w env h b (.int j)) : Sees P w env h (.Compare a [.Gt] [b] pos) (.bl (decide (j < i))) := fun A E Q s hs q => by
  refine wpAny_Compare1 (ha A _ _ s hs fun u k r => hb A _ _ _ hs fun u' k' r' => ?_) (nomark b)
  obtain ⟨t, rfl⟩ := r
  obtain ⟨t', rfl⟩ := r'
  exact gt_int (q _ _ rfl)
theorem sees_ge (ha : Sees P w env h a (.int i)) (hb : Sees P w env h b (.int j)) : Sees P w env h (.Compare a [.GtE] [b] pos) (.bl (decide (j ≤ i))) := fun A E Q s hs q => by
  refine wpAny_Compare1 (ha A _ _ s hs fun u k r => hb A _ _ _ hs fun u' k' r' => ?_) (nomark b)
  obtain ⟨t, rfl⟩ := r
  obtain ⟨t', rfl⟩ := r'
  exact ge_int (q _ _ rfl)
end
theorem cl_lookup {cells : List (Str × Addr)} {names : List (Str × NameKind)} {n : Str} {c : Addr} (h : (n, NameKind.free) ∈ names) (hc : cells.lookup n = some c) : (cloFrom cells names []).lookup n = some c := by
  have hm := cloFrom_has (cells := cells) (acc := []) h
  cases q : (cloFrom cells names []).lookup n with
  | none =>
    have : ∀ (L : List (Str × Addr)), L.lookup n = none → ∀ c, (n, c) ∉ L := fun L => by
      induction L with
      | nil => intro _ c z; cases z
      | cons y L ih =>
        obtain ⟨y1, y2⟩ := y
        intro e c z
        rw [List.lookup_cons] at e
        split at e
        · cases e
        · rename_i hb
          rcases List.mem_cons.mp z with z | z
          · cases z
            simp at hb
          · exact ih e c z
    exact absurd hm (this _ q _)
  | some c' =>
    have : ∀ (L : List (Str × Addr)) c', L.lookup n = some c' → (n, c') ∈ L := fun L => by
      induction L with
      | nil => intro c' z; cases z
      | cons y L ih =>
        obtain ⟨y1, y2⟩ := y
        intro c' e
        rw [List.lookup_cons] at e
        split at e
        · rename_i hb
          cases e
          rw [eq_of_beq hb]
          exact List.mem_cons_self ..
        · exact List.mem_cons_of_mem _ (ih _ e)
    rcases cloFrom_mem (this _ _ q) with z | ⟨_, z⟩
    · cases z
    · rw [z, hc]
      rfl
/-- a captured whole number -/
def CapI (cells : List (Str × Addr)) (h : Heap) (n : Str) (i : Int) : Prop := ∃ c t, cells.lookup n = some c ∧ h.IsCell c (some (.int i t))

theorem CapI.keeps {cells : List (Str × Addr)} {h h' : Heap} {n : Str} {i : Int} {P : Addr} {vs : Array Value} (x : CapI cells h n i) (hP : ∃ o, h.get? P = some o ∧ o.data = .fields vs) (k : ∀ b o, b ≠ P → h.get? b = some o → h'.get? b = some o) : CapI cells h' n i := by
  obtain ⟨c, t, e, o, g, d⟩ := x
  refine ⟨c, t, e, o, k c o (fun z => ?_) g, d⟩
  obtain ⟨o', g', d'⟩ := hP
  rw [z, g'] at g
  cases g
  rw [d] at d'
  cases d'
/-- the element: a test of the pair (x, y) and three captured whole numbers -/
def EltP (P : Program) (w : World) (scope : Scope) (xa xb n1 n2 n3 : Str) (elt : Expr) (C : Int → Int → Int → Int × Int → Prop) (f : Int → Int → Int → Int × Int → Bool) : Prop :=
  ∀ (cenv : Env) (h : Heap) (i1 i2 i3 x y : Int) (tx ty : Tok) (m : Str → Option Value), cenv.scope = scope → CapI cenv.cells h n1 i1 → CapI cenv.cells h n2 i2 → CapI cenv.cells h n3 i3 →
    h.Ns cenv.locals m → m xa = some (.int x tx) → m xb = some (.int y ty) → C i1 i2 i3 (x, y) → Sees P w cenv h elt (.bl (f i1 i2 i3 (x, y)))
structure GenP (env : Env) (scope : Scope) (xa xb n1 n2 n3 : Str) : Prop where
  kind : scope.kind = .function
  co : scope.isCoroutine = false
  cell : ∀ y ∈ scope.names, y.2 ≠ .cell
  dot : scope.names.lookup (".0" : Str) = some NameKind.local
  la : scope.names.lookup xa = some .local
  lb : scope.names.lookup xb = some .local
  ab : xa ≠ xb
  f1 : (n1, NameKind.free) ∈ scope.names
  f2 : (n2, NameKind.free) ∈ scope.names
  f3 : (n3, NameKind.free) ∈ scope.names
  free : ∀ y ∈ scope.names, y.2 = .free → y.1 = n1 ∨ y.1 = n2 ∨ y.1 = n3
  c1 : env.scope.names.lookup n1 = some .cell
  c2 : env.scope.names.lookup n2 = some .cell
  c3 : env.scope.names.lookup n3 = some .cell
  e1 : (env.cells.lookup n1).isSome = true
  e2 : (env.cells.lookup n2).isSome = true
  e3 : (env.cells.lookup n3).isSome = true
def tAllP (K : PySem.W.Frag) (P : Addr) (s1 s2 s3 : Nat) (C : Int → Int → Int → Int × Int → Prop) (f : Int → Int → Int → Int × Int → Bool) (te : TE) : TE := fun σ H Q => te σ H fun v H1 => ∃ (a : Addr) (vs : List V) (ps : List (Int × Int)) (i1 i2 i3 : Int), v = .ref a ∧ SqT K H1 a vs ∧ AllAt (At2 K H1) vs ps ∧
  σ[s1]? = some (some (.int i1)) ∧ σ[s2]? = some (some (.int i2)) ∧ σ[s3]? = some (some (.int i3)) ∧ (∀ p ∈ ps, C i1 i2 i3 p) ∧ TabG H1 P ∧ ∀ H2, Same H1 H2 → TabG H2 P → Q (.bl (ps.all (f i1 i2 i3))) H2
theorem cap_of {X : Cx} {pins : List (Addr × Obj)} {σ : L2.St} {H : Hp} {s : Shared} {i : Nat} {n : Str} {z : Int} (I : Inv X pins σ H s) (hN : X.N[i]? = some n) (hc : X.env.scope.names.lookup n = some .cell) (e : σ[i]? = some (some (.int z))) :
    CapI X.env.cells s.heap n z := by
  obtain ⟨m, hn, hl⟩ := I.loc
  obtain ⟨u, r, l⟩ := hl i n _ hN e (.inr (.inl hc))
  obtain ⟨t, rfl⟩ := r
  rcases l with ⟨hk, _⟩ | ⟨_, c, hc', hcell⟩
  · have : X.env.scope.names.lookup n = some .local := hk
    rw [hc] at this
    cases this
  · exact ⟨c, t, hc', hcell⟩

section
variable {X : Cx}
theorem pe_allP {c P : Addr} {elt iter : Expr} {xa xb n1 n2 n3 : Str} {pa pb pt p pos gpos : Pos} {kt : Nat} {scope : Scope} {te : TE} {k s1 s2 s3 : Nat} {C : Int → Int → Int → Int × Int → Prop} {f : Int → Int → Int → Int × Int → Bool}
    (hr : Room k X.A) (hg : Gl X "all") (hm : X.mg "all" = none) (TB : TabB X.base X.mg c P) (hcode : X.env.code = .ref c) (hi : PE X iter te) (S : GenP X.env scope xa xb n1 n2 n3)
    (hN1 : X.N[s1]? = some n1) (hN2 : X.N[s2]? = some n2) (hN3 : X.N[s3]? = some n3) (hel : EltP X.prog X.w scope xa xb n1 n2 n3 elt C f)
    (hs : ∀ v, genFold iter X.env v = pure v := by intro _; rfl)
    (he : starEach [.GeneratorExp elt [⟨.Tuple [.Name xa pa, .Name xb pb] kt pt, iter, [], 0⟩] scope gpos] X.env = (false, eval (.GeneratorExp elt [⟨.Tuple [.Name xa pa, .Name xb pb] kt pt, iter, [], 0⟩] scope gpos) X.env) :: starEach [] X.env := by rfl) :
    PE X (.Call (.Name "all" p) [.GeneratorExp elt [⟨.Tuple [.Name xa pa, .Name xb pb] kt pt, iter, [], 0⟩] scope gpos] [] pos) (tAllP X.K P s1 s2 s3 C f te) := by
  have isS : ∀ {o : Option Addr}, o.isSome = true → ∃ c, o = some c := fun {o} h => by cases o with
    | none => cases h
    | some c => exact ⟨c, rfl⟩
  have hfree : ∀ y ∈ scope.names, y.2 = .free → ∃ c, X.env.cells.lookup y.1 = some c := fun y hy e => by
    rcases S.free y hy e with z | z | z <;> rw [z]
    · exact isS S.e1
    · exact isS S.e2
    · exact isS S.e3
  refine ⟨fun pins s σ H Q I h => ?_⟩
  refine wpAny_Call_Name_kw (ld_blt I hg hm PyProof.Rows.boot_all ?_)
  refine PyProof.Rows.callWith_builtin1 ?_ he (by rfl)
  rw [he]
  show wpAny _ _ (spliced ((false, eval (.GeneratorExp elt [⟨.Tuple [.Name xa pa, .Name xb pb] kt pt, iter, [], 0⟩] scope gpos) X.env) :: backTo pos (starEach [] X.env))) _ _ s
  refine Calls.spliced_cons ?_
  refine wpAny_GeneratorExp_walksQTD hr.hd S.co (closure_ok hfree) S.cell S.dot S.la S.lb S.ab S.kind (by have := hr.dp; omega) ?_ hs
  refine thn (hi.run pins s σ H _ I h) fun xv s1' ⟨v, H1, I1, r1, q1⟩ => ?_
  obtain ⟨a, vs, prs, i1, i2, i3, rfl, hS, hall, g1, g2, g3, hC, hT, q⟩ := q1
  cases r1
  have k1 := cap_of I1 hN1 S.c1 g1
  have k2 := cap_of I1 hN2 S.c2 g2
  have k3 := cap_of I1 hN3 S.c3 g3
  have cl : ∀ {n : Str} {i : Int}, (n, NameKind.free) ∈ scope.names → CapI X.env.cells s1'.heap n i → CapI (cloFrom X.env.cells scope.names []) s1'.heap n i := fun h ⟨c, t, e, z⟩ => ⟨c, t, cl_lookup h e, z⟩
  replace k1 := cl S.f1 k1
  replace k2 := cl S.f2 k2
  replace k3 := cl S.f3 k3
  clear cl
  obtain ⟨ps, hP, ht⟩ := id hT
  obtain ⟨its, rv, tup, hz⟩ := I1.tuple hS
  have lx := rv.length
  have lp := hall.length
  have hpair : ∀ j, ∃ z : Addr × Array Value, j < its.length → ∃ x y t1 t2, its[j]? = some (.ref z.1) ∧ s1'.heap.IsTuple z.1 z.2 ∧ z.2 = #[.int x t1, .int y t2] ∧ prs[j]? = some (x, y) := fun j => by
    by_cases hj : j < its.length
    · obtain ⟨u, eu, ru⟩ := rv.get (List.getElem?_eq_getElem (show j < vs.length by omega))
      obtain ⟨pr, ep, b, eb, hb⟩ := hall.get (List.getElem?_eq_getElem (show j < vs.length by omega))
      rw [eb] at ru
      cases ru
      obtain ⟨its2, rv2, tup2, _⟩ := I1.tuple hb
      cases rv2 with
      | cons r1 rr =>
        cases rr with
        | cons r2 rr =>
          cases rr
          obtain ⟨t1, rfl⟩ := r1
          obtain ⟨t2, rfl⟩ := r2
          exact ⟨(b, #[.int pr.1 t1, .int pr.2 t2]), fun _ => ⟨pr.1, pr.2, t1, t2, eu, tup2, rfl, ep⟩⟩
    · exact ⟨(0, #[]), fun z => absurd z hj⟩
  obtain ⟨F, hF⟩ := Classical.skolem.mp hpair
  refine wpAny_pyIter_tuple tup ?_
  have hPs : s1'.heap.get? P = some { cls := .none, data := .fields ps } := I1.hok P _ hP
  have hPlt : P < s1'.heap.objs.size := Heap.lt_size hPs
  have halt : a < s1'.heap.objs.size := by obtain ⟨o, e, _⟩ := id tup; exact Heap.lt_size e
  have haP : a ≠ P := fun e => by
    obtain ⟨o, e1, e2, _⟩ := id tup
    rw [e, hPs] at e1
    cases e1
    cases e2
  have hTlt : ∀ j, j < its.length → (F j).1 < s1'.heap.objs.size ∧ (F j).1 ≠ P := fun j hj => by
    obtain ⟨_, _, _, _, _, tj, _, _⟩ := hF j hj
    obtain ⟨o, e1, e2, _⟩ := id tj
    refine ⟨Heap.lt_size e1, fun e => ?_⟩
    rw [e, hPs] at e1
    cases e1
    cases e2
  generalize hito : ({ cls := .type "tuple_iterator", data := .fields #[.ref a, .int 0 0] } : Obj) = ito
  have hP2 : (s1'.heap.push ito).get? P = some { cls := .none, data := .fields ps } := Heap.get?_push_of_some _ hPs
  have cd : PySem.W.CodeHd (s1'.heap.push ito) c P := TB.code.keeps fun b u e => Heap.get?_push_of_some _ (I1.bk b u e)
  have lim2 : (s1'.heap.push ito).NoLimit := I1.nolimit.push ito
  have sz2 : (s1'.heap.push ito).objs.size = s1'.heap.objs.size + 1 := Heap.size_push ..
  have cont : ∀ (code : Value) (h3 : Heap) (tk : Nat) (ps' : Array Value), Heap.ExtBut P (s1'.heap.push ito) h3 → (s1'.heap.push ito).objs.size ≤ h3.objs.size → h3.get? P = some { cls := .none, data := .fields ps' } → (∃ more, ps' = ps ++ more) → TriplesOk ps'.toList →
      wpAny (model X.prog X.w) X.A (builtinsFor X.env.globals X.env.builtins) (fun bi s₄ =>
        ∃ Ia fp wr n₀ Pt St₀ Mid pz F, Value.ref s1'.heap.objs.size = .ref Ia ∧ (∀ A' : Around, A'.handled = none → WalksU X.prog X.w A' Ia fp wr n₀ Pt St₀ Mid) ∧ (∀ i vals, Pt i vals → ∃ va vb, vals = #[va, vb]) ∧ St₀ 0 s₄.heap ∧ (∀ b ∈ fp, b < s₄.heap.objs.size) ∧ s₄.heap.NoLimit ∧ cStatics ∉ wr ∧
          (∀ href : Heap, (∀ b o, s₄.heap.get? b = some o → href.get? b = some o) →
            QuietGenTD X.prog X.w (genEnv scope (cloFrom X.env.cells scope.names []) s₄.heap.objs.size code bi X.env) xa xb [] elt (List.range s₄.heap.objs.size) wr Pt pz F href (X.A.depth + 1) (X.A.units + 8)) ∧
          (∀ a h₅ tk gs, gs.bare = true → s₄.heap.objs.size < a → h₅.objs.size = a + 1 → (∀ b o, s₄.heap.get? b = some o → h₅.get? b = some o) →
            WalksS X.prog X.w X.A.in4 a (a :: s₄.heap.objs.size :: List.range s₄.heap.objs.size) (s₄.heap.objs.size :: wr) (GenOnlyQ s₄.gens.size) (passing pz n₀ 0).length
              (fun j y => ∃ i, (passing pz n₀ 0)[j]? = some i ∧ F i y) (GenAt X.prog X.w X.A.in4 a s₄.gens.size s₄.heap.objs.size (List.range s₄.heap.objs.size) wr pz n₀ F) →
            GenAt X.prog X.w X.A.in4 a s₄.gens.size s₄.heap.objs.size (List.range s₄.heap.objs.size) wr pz n₀ F 0 { s₄ with gens := s₄.gens.push gs, toks := tk, heap := h₅ } →
            wpAny (model X.prog X.w) X.A (spliced (backTo pos (starEach [] X.env))) (fun vs s2 => wpAny (model X.prog X.w) X.A (call (.builtin "all") (.ref a :: vs)) (EP X pins σ Q) X.xe s2) X.xe { s₄ with gens := s₄.gens.push gs, toks := tk, heap := h₅ })) X.xe { s1' with heap := h3, toks := tk } := by
    intro code h3 tk ps' hx hsz hP3 hmore ht3
    obtain ⟨bm, ob, e1, e2, e3, e4, e5, e6, e7, e8⟩ := TB.bm
    have keep3 : ∀ b u, b ≠ P → s1'.heap.get? b = some u → h3.get? b = some u := fun b u hb e => hx b u hb (Heap.get?_push_of_some _ e)
    have hcP : cStatics ≠ P := fun e => by
      obtain ⟨_, hns, _⟩ := I1.nolimit
      obtain ⟨o', es, ep, ho, hd, _⟩ := hns
      rw [e, hPs] at ho
      cases ho
      cases hd
    have hcl : cStatics < s1'.heap.objs.size := let ⟨_, hns, _⟩ := I1.nolimit; hns.lt
    have szle : s1'.heap.objs.size < h3.objs.size := by rw [sz2] at hsz; exact hsz
    refine wpAny_builtinsFor (m := X.mg) (by rw [I1.ok.glob]; exact ((I1.mod.glob.keeps I1.bk).push ito).extBut hx TB.gP) e1 e2 (keep3 _ _ e4 (I1.bk _ _ e5)) e6 e7 e8 ?_
    refine ⟨s1'.heap.objs.size, _, [s1'.heap.objs.size], its.toArray.size, _, _, _, (fun _ => true), (fun i y => i < its.toArray.size ∧ y = .bool (f i1 i2 i3 (prs.getD i (0, 0)))), rfl,
      fun A' hA => walksTT hA s1'.heap.objs.size a (Nat.ne_of_lt halt) its.toArray (fun j => (F j).1) (fun j => (F j).2) (fun j hj => ?_) (fun j hj => ?_), ?_, ⟨?_, ?_, ?_⟩, ?_, lim2.extBut hx hcP, ?_, ?_, ?_⟩
    · have hj : j < its.length := by simpa using hj
      obtain ⟨_, _, _, _, ej, _⟩ := hF j hj
      simpa using ej
    · have hj : j < its.length := by simpa using hj
      exact Nat.ne_of_lt (hTlt j hj).1
    · rintro i vals ⟨hi', rfl⟩
      have hi' : i < its.length := by simpa using hi'
      obtain ⟨x, y, t1, t2, _, _, e, _⟩ := hF i hi'
      exact ⟨_, _, e⟩
    · refine ⟨ito, hx _ _ (fun z => Nat.ne_of_lt hPlt z.symm) (Heap.get?_push_size _ (by rw [← hito]; rfl)), by rw [← hito], by rw [← hito]; rfl⟩
    · obtain ⟨o, g1, g2, g3⟩ := id tup
      exact ⟨o, keep3 a o haP g1, g2, g3⟩
    · intro j hj
      have hj : j < its.length := by simpa using hj
      obtain ⟨_, _, _, _, _, ⟨o, g1, g2, g3⟩, _⟩ := hF j hj
      exact ⟨o, keep3 _ o (hTlt j hj).2 g1, g2, g3⟩
    · intro b hb
      show b < h3.objs.size
      rcases List.mem_cons.mp hb with z | z
      · rw [z]; exact szle
      · rcases List.mem_cons.mp z with z | z
        · rw [z]; exact Nat.lt_trans halt szle
        · obtain ⟨j, hj, rfl⟩ := List.mem_map.mp z
          have hj : j < its.length := by simpa using hj
          exact Nat.lt_trans (hTlt j hj).1 szle
    · intro z
      rw [List.mem_singleton.mp z] at hcl
      exact Nat.lt_irrefl _ hcl
    · intro href hhref
      refine ⟨fun A' E' i va vb s₂ m₂ hA hD hU hPv hn hma hmb hk => ?_, fun A' E' i va vb s₂ m₂ hA hD hU hPv hp hn hma hmb hk => ?_⟩
      · simp only [List.forIn_nil]
        exact wpAny_pure ⟨rfl, GxR.keeps_refl _⟩
      · have key : ∀ b o, b ≠ P → s1'.heap.get? b = some o → s₂.heap.get? b = some o := fun b o hb e =>
          hk b (List.mem_range.mpr (Heap.lt_size (keep3 b o hb e))) (fun z => by
            have l := Heap.lt_size e
            rw [List.mem_singleton.mp z] at l
            exact Nat.lt_irrefl _ l) o (hhref b o (keep3 b o hb e))
        obtain ⟨hi0, ev⟩ := hPv
        have hi' : i < its.length := by simpa using hi0
        obtain ⟨x, y, t1, t2, _, _, e, ep⟩ := hF i hi'
        rw [e] at ev
        cases ev
        have hPd : ∃ o, s1'.heap.get? P = some o ∧ o.data = .fields ps := ⟨_, hPs, rfl⟩
        have see := hel (genEnv scope (cloFrom X.env.cells scope.names []) h3.objs.size code builtinsNs X.env) s₂.heap i1 i2 i3 x y t1 t2 m₂ rfl (k1.keeps hPd key) (k2.keeps hPd key) (k3.keeps hPd key) hn hma hmb (hC _ (List.mem_of_getElem? ep))
        refine see A' E' _ s₂ rfl fun u kk r => ?_
        cases r
        refine ⟨⟨hi0, ?_⟩, GxR.keeps_tok _ _⟩
        rw [List.getD_eq_getElem?_getD, ep]
        rfl
    · intro g h5 tk5 gs hgb hag hsz5 hk5 W5 hat
      simp only [GxR.passing_true, List.length_range] at W5
      refine Calls.spliced_nil ?_
      have W := W5.in4_1
      refine call_all_walkS (W.self 0 _ _ _ hat ⟨g, _, _, _, _, _, _, fun j => f i1 i2 i3 (prs.getD j (0, 0)), rfl, W, hat, ?_, fun s' hm => ?_⟩)
      · intro j y sj Qj Ej hy hQj
        obtain ⟨i, hij, hi2, rfl⟩ := hy
        try rw [GxR.passing_true] at hij
        obtain ⟨hj, ej⟩ := List.getElem?_eq_some_iff.mp hij
        rw [List.getElem_range] at ej
        subst ej
        exact wpAny_truthy_bool hQj
      · obtain ⟨more, em⟩ := hmore
        have nwr : ∀ b u, s1'.heap.get? b = some u → b ∉ h3.objs.size :: [s1'.heap.objs.size] := fun b u e hb => by
          have hl := Heap.lt_size e
          simp only [List.mem_cons, List.not_mem_nil, or_false] at hb
          rcases hb with z | z
          · rw [z] at hl
            have h9 : (h3.objs.size : Nat) < s1'.heap.objs.size := hl
            omega
          · rw [z] at hl
            exact Nat.lt_irrefl _ hl
        have J := inv_tab (more := more) (h' := s'.heap) (g' := s'.gens) (d' := s'.drawn) (t' := s'.toks) I1 hP (fun b u hb e => hm.heap b u (nwr b u e) (hk5 b u (keep3 b u hb e)))
          (by rw [← em]; exact hm.heap P _ (nwr P _ hPs) (hk5 P _ hP3)) (AllBare.movedS (I1.bare.push hgb) hm)
        rw [sh_eta s1' s' hm.os] at J
        have tb : Tabbed P H1 (upd H1 P (.tbl (ps ++ more))) := ⟨⟨ps ++ more, upd_same, by rw [← em]; exact ht3⟩, fun b hb => upd_ne hb⟩
        refine ⟨.bl _, _, J, ?_, q _ (Same.tabbed hT tb) tb.1⟩
        show Value.bool _ = Value.bool _
        have hall2 := all_range (prs.map (f i1 i2 i3))
        rw [List.length_map, List.all_map] at hall2
        have e9 : (List.range its.toArray.size).all (fun j => f i1 i2 i3 (prs.getD j (0, 0))) = (List.range prs.length).all fun j => (prs.map (f i1 i2 i3)).getD j false := by
          rw [show its.toArray.size = prs.length by simp; omega, Bool.eq_iff_iff, List.all_eq_true, List.all_eq_true]
          constructor
          · intro z j hj
            have := z j hj
            have hj := List.mem_range.mp hj
            rw [List.getD_eq_getElem?_getD, List.getElem?_eq_getElem hj] at this
            rw [List.getD_eq_getElem?_getD, List.getElem?_map, List.getElem?_eq_getElem hj]
            exact this
          · intro z j hj
            have := z j hj
            have hj := List.mem_range.mp hj
            rw [List.getD_eq_getElem?_getD, List.getElem?_map, List.getElem?_eq_getElem hj] at this
            rw [List.getD_eq_getElem?_getD, List.getElem?_eq_getElem hj]
            exact this
        rw [e9, hall2]
        rfl
  refine ⟨lim2, ?_⟩
  cases hf : codeAmong gpos ps.toList with
  | none =>
    refine wpAny_genexprCodeX hcode (cd.code hP2 ht) (cd.tab hP2) hf fun c' h' tk hx hge hlt hco' _ htab' _ => ?_
    obtain ⟨o1, vs, f1, tf, fl, tg, inF, tx, tt, op, _, _, _, _, _, _, _, _, _, htr, _⟩ := hco'
    exact cont _ h' tk _ hx (Nat.le_trans hge (Nat.le_of_lt hlt)) htab'.2 ⟨_, rfl⟩ htr
  | some cv =>
    refine wpAny_genexprCode_hit hcode (cd.code hP2 ht) hf ?_
    exact cont cv (s1'.heap.push ito) s1'.toks ps (Heap.ExtBut.refl _ _) (Nat.le_refl _) hP2 ⟨#[], by simp⟩ ht
end
/-! ### thing == () -/
def rEqTNil (K : PySem.W.Frag) : R2 := fun x y H Q => ∃ a b xs, x = .ref a ∧ y = .ref b ∧ SqT K H a xs ∧ SqT K H b [] ∧ Q (.bl xs.isEmpty) H
theorem op_eqTNil {X : Cx} (hu : X.A.units + 64 < cLine) : OpR X (compareOp .Eq) (rEqTNil X.K) := by
  intro pins s σ H x y v u Q I rx ry h
  obtain ⟨a, b, xs, rfl, rfl, ha, hb, q⟩ := h
  cases rx
  cases ry
  obtain ⟨its, rv, p, _⟩ := I.tuple ha
  obtain ⟨its2, rv2, p2, _⟩ := I.tuple hb
  cases rv2
  refine SeqAt.eq_tupleAt (e := fun _ => true) p p2 (by omega) (fun j h1 h2 => absurd h2 (Nat.not_lt_zero _)) ?_
  have hl := rv.length
  refine ⟨.bl _, H, I, ?_, q⟩
  show Value.bool _ = Value.bool _
  cases xs with
  | nil =>
    have : its = [] := List.eq_nil_of_length_eq_zero hl.symm
    subst this
    rfl
  | cons x xs =>
    cases its with
    | nil => simp at hl
    | cons i its => simp
end Cl

namespace Cl
open PySem PySem.Spec PyProof.Rows L2
/-! ### comprehensions with two fors over tuples -/
theorem genT {K : PySem.W.Frag} {a : Addr} {xs : List V} {H0 : Hp} {Qd : Hp → Prop} {BODY : V → Hp → (Hp → Prop) → Prop} (Pv : Nat → Hp → Prop) (h0 : Pv 0 H0) (hl : ∀ i H, i ≤ xs.length → Pv i H → SqT K H a xs)
    (hs : ∀ i x H, xs[i]? = some x → Pv i H → BODY x H (Pv (i + 1))) (hd : ∀ H, Pv xs.length H → Qd H) :
    ∃ W : Nat → Nat → Hp → Prop, (∃ m, W 0 m H0) ∧ ∀ i m H, W i m H → ((Itt K a).stop i H ∧ Qd H) ∨ ((Itt K a).go i H ∧ ∃ Nx : Hp → Prop, (∀ H', Nx H' → ∃ m', m' < m ∧ W (i + 1) m' H') ∧ ∀ x H', (Itt K a).yld i H x H' → BODY x H' Nx) := by
  refine ⟨fun i m H => m = xs.length - i ∧ i ≤ xs.length ∧ Pv i H, ⟨xs.length, by simp, Nat.zero_le _, h0⟩, ?_⟩
  rintro i m H ⟨rfl, hi, p⟩
  have q := hl i H hi p
  by_cases hlt : i < xs.length
  · refine .inr ⟨⟨xs, xs[i], q, List.getElem?_eq_getElem hlt⟩, Pv (i + 1), fun H' p' => ⟨xs.length - (i + 1), by omega, rfl, hlt, p'⟩, fun x H' y => ?_⟩
    obtain ⟨e, y⟩ := y
    subst e
    exact hs i x _ (y xs q) p
  · have e : i = xs.length := by omega
    subst e
    exact .inl ⟨⟨xs, q, Nat.le_refl _⟩, hd H p⟩
section
variable {X : Cx} {K : PySem.W.Frag} {tg e : Expr} {te : TE}
theorem pi_tupk (hK : X.K = K) (h : PE X e te) : PI X tg e (iTup K te) := hK ▸ pi_tup h
theorem pi_listk (hK : X.K = K) (h : PE X e te) : PI X tg e (iList K te) := hK ▸ pi_list h
end
end Cl

namespace Cl
open PySem PySem.Spec PyProof.Rows L2
/-! ### zip of two tuples within a comprehension -/
theorem walk_zipT {K : PySem.W.Frag} {a b : Addr} {xs ys : List V} {n : Nat} (hn : n = min xs.length ys.length) : Walk (RZ.ItzT K a b) n (fun H => SqT K H a xs ∧ SqT K H b ys) (YPair (fun i => xs[i]?) (fun i => ys[i]?)) := by
  subst hn
  refine ⟨fun i _ hi q => ?_, fun _ q => ⟨xs, ys, q.1, q.2, by omega⟩, fun i H v H' _ q y => ?_⟩
  · have h1 : i < xs.length := by omega
    have h2 : i < ys.length := by omega
    exact ⟨xs, ys, xs[i], ys[i], q.1, q.2, by simp [h1], by simp [h2]⟩
  · obtain ⟨T, x, z, h1, h2, h3, h4, h5⟩ := y
    exact ⟨T, x, z, h1, h2, h3, h4 xs q.1, h5 ys q.2⟩
def lcZT {K : PySem.W.Frag} {a b : Addr} {xs ys : List V} {n : Nat} {g : TG} {tt : TT} {te : TE} {vs : List Nat} {σ : L2.St} {H1 : Hp} {D : Addr} {Qd : Hp → Prop} (hn : n = min xs.length ys.length)
    (Pv : Nat → Hp → Prop) (hD : H1 D = none) (h0 : ∀ H', Same H1 H' → H' D = some (.lst []) → Pv 0 H') (hG : ∀ i H, i ≤ n → Pv i H → SqT K H a xs ∧ SqT K H b ys)
    (hs : ∀ i x H H', i < n → Pv i H → YPair (fun i => xs[i]?) (fun i => ys[i]?) i H x H' → g x (wipe σ vs) H' fun σ2 H2 => wipe σ2 vs = wipe σ vs ∧ tt σ2 H2 fun b H3 =>
      if b = true then te σ2 H3 fun y H4 => ∃ acc, H4 D = some (.lst acc) ∧ acc.length < sizeLine ∧ Pv (i + 1) (upd H4 D (.lst (acc ++ [y]))) else Pv (i + 1) H3)
    (hd : ∀ H, Pv n H → Qd H) := lc_it (walk_zipT (K := K) (a := a) (b := b) hn) (g := g) (tt := tt) (te := te) (vs := vs) (σ := σ) (H1 := H1) (D := D) (Qd := Qd) Pv (h0 _ (same_new hD) upd_same) hG hs hd
end Cl

namespace Cl
/-! ### where a line misses a cell, one of six ways lies beyond -/
def In1 (L U a b P Q : Int) : Prop := L * Q ≤ a * Q + b * P ∧ a * Q + b * P < U * Q
theorem lin_nn {a b P1 Q1 P2 Q2 P3 Q3 : Int} (q1 : 0 < Q1) (q2 : 0 < Q2) (q3 : 0 < Q3) (h12 : P1 * Q2 ≤ P2 * Q1) (h23 : P2 * Q3 ≤ P3 * Q2) (e1 : 0 ≤ a * Q1 + b * P1) (e3 : 0 ≤ a * Q3 + b * P3) : 0 ≤ a * Q2 + b * P2 := by
  refine Int.not_lt.mp fun z => ?_
  by_cases hb : 0 ≤ b
  · have k1 := Int.mul_nonneg e1 (Int.le_of_lt q2)
    have k2 := Int.mul_le_mul_of_nonneg_left h12 hb
    have k3 : (a * Q2 + b * P2) * Q1 = (a * Q1 + b * P1) * Q2 + (b * (P2 * Q1) - b * (P1 * Q2)) := by grind
    have k4 := Int.mul_neg_of_neg_of_pos z q1
    omega
  · have k1 := Int.mul_nonneg e3 (Int.le_of_lt q2)
    have k2 := Int.mul_le_mul_of_nonpos_left (show b ≤ 0 by omega) h23
    have k3 : (a * Q2 + b * P2) * Q3 = (a * Q3 + b * P3) * Q2 + (b * (P2 * Q3) - b * (P3 * Q2)) := by grind
    have k4 := Int.mul_neg_of_neg_of_pos z q3
    omega
theorem lin_pos {a b P1 Q1 P2 Q2 P3 Q3 : Int} (q1 : 0 < Q1) (q2 : 0 < Q2) (q3 : 0 < Q3) (h12 : P1 * Q2 ≤ P2 * Q1) (h23 : P2 * Q3 ≤ P3 * Q2) (e1 : 0 < a * Q1 + b * P1) (e3 : 0 < a * Q3 + b * P3) : 0 < a * Q2 + b * P2 := by
  refine Int.not_le.mp fun z => ?_
  by_cases hb : 0 ≤ b
  · have k1 := Int.mul_pos e1 q2
    have k2 := Int.mul_le_mul_of_nonneg_left h12 hb
    have k3 : (a * Q2 + b * P2) * Q1 = (a * Q1 + b * P1) * Q2 + (b * (P2 * Q1) - b * (P1 * Q2)) := by grind
    have k4 := Int.mul_nonneg (show 0 ≤ -(a * Q2 + b * P2) by omega) (Int.le_of_lt q1)
    rw [Int.neg_mul] at k4
    omega
  · have k1 := Int.mul_pos e3 q2
    have k2 := Int.mul_le_mul_of_nonpos_left (show b ≤ 0 by omega) h23
    have k3 : (a * Q2 + b * P2) * Q3 = (a * Q3 + b * P3) * Q2 + (b * (P2 * Q3) - b * (P3 * Q2)) := by grind
    have k4 := Int.mul_nonneg (show 0 ≤ -(a * Q2 + b * P2) by omega) (Int.le_of_lt q3)
    rw [Int.neg_mul] at k4
    omega
def Cvx (A : Int → Int → Prop) : Prop := ∀ P1 Q1 P2 Q2 P3 Q3, 0 < Q1 → 0 < Q2 → 0 < Q3 → P1 * Q2 ≤ P2 * Q1 → P2 * Q3 ≤ P3 * Q2 → A P1 Q1 → A P3 Q3 → A P2 Q2
theorem in1_cvx {L U a b : Int} : Cvx (In1 L U a b) := by
  intro P1 Q1 P2 Q2 P3 Q3 q1 q2 q3 h12 h23 ⟨e1, e2⟩ ⟨e3, e4⟩
  have k1 := lin_nn (a := a - L) (b := b) q1 q2 q3 h12 h23 (by rw [Int.sub_mul]; omega) (by rw [Int.sub_mul]; omega)
  have k2 := lin_pos (a := U - a) (b := -b) q1 q2 q3 h12 h23 (by rw [Int.sub_mul, Int.neg_mul]; omega) (by rw [Int.sub_mul, Int.neg_mul]; omega)
  rw [Int.sub_mul] at k1
  rw [Int.sub_mul, Int.neg_mul] at k2
  exact ⟨by omega, by omega⟩
theorem seg_cvx : Cvx fun P Q => 0 ≤ P ∧ P ≤ Q := by
  intro P1 Q1 P2 Q2 P3 Q3 q1 q2 q3 h12 h23 ⟨e1, e2⟩ ⟨e3, e4⟩
  have k1 := lin_nn (a := 0) (b := 1) q1 q2 q3 h12 h23 (by omega) (by omega)
  have k2 := lin_nn (a := 1) (b := -1) q1 q2 q3 h12 h23 (by omega) (by omega)
  exact ⟨by omega, by omega⟩
/-- three convex sets of shares, each two of them with one in common, have one in common -/
theorem helly {A B C : Int → Int → Prop} (cA : Cvx A) (cB : Cvx B) (cC : Cvx C) {P1 Q1 P2 Q2 P3 Q3 : Int} (q1 : 0 < Q1) (q2 : 0 < Q2) (q3 : 0 < Q3) (a1 : A P1 Q1) (b1 : B P1 Q1) (b2 : B P2 Q2) (c2 : C P2 Q2) (a3 : A P3 Q3) (c3 : C P3 Q3) :
    ∃ P Q, 0 < Q ∧ A P Q ∧ B P Q ∧ C P Q := by
  rcases Int.le_total (P1 * Q2) (P2 * Q1) with x | x
  · rcases Int.le_total (P2 * Q3) (P3 * Q2) with y | y
    · exact ⟨P2, Q2, q2, cA _ _ _ _ _ _ q1 q2 q3 x y a1 a3, b2, c2⟩
    · rcases Int.le_total (P1 * Q3) (P3 * Q1) with z | z
      · exact ⟨P3, Q3, q3, a3, cB _ _ _ _ _ _ q1 q3 q2 z y b1 b2, c3⟩
      · exact ⟨P1, Q1, q1, a1, b1, cC _ _ _ _ _ _ q3 q1 q2 z x c3 c2⟩
  · rcases Int.le_total (P1 * Q3) (P3 * Q1) with z | z
    · exact ⟨P1, Q1, q1, a1, b1, cC _ _ _ _ _ _ q2 q1 q3 x z c2 c3⟩
    · rcases Int.le_total (P2 * Q3) (P3 * Q2) with y | y
      · exact ⟨P3, Q3, q3, a3, cB _ _ _ _ _ _ q2 q3 q1 y z b2 b1, c3⟩
      · exact ⟨P2, Q2, q2, cA _ _ _ _ _ _ q3 q2 q1 y x a3 a1, b2, c2⟩
theorem in_seg {L U a b : Int} (hLU : L < U) (h1 : a < U ∨ a + b < U) (h2 : L ≤ a ∨ L ≤ a + b) : ∃ P Q, 0 < Q ∧ (0 ≤ P ∧ P ≤ Q) ∧ In1 L U a b P Q := by
  unfold In1
  by_cases c0 : L ≤ a ∧ a < U
  · exact ⟨0, 1, by omega, by omega, by omega, by omega⟩
  by_cases c1 : L ≤ a + b ∧ a + b < U
  · exact ⟨1, 1, by omega, by omega, by omega, by omega⟩
  by_cases c2 : a < L
  · have hb : 0 < b := by omega
    have e : a * b + b * (L - a) = L * b := by grind
    refine ⟨L - a, b, hb, ⟨by omega, by omega⟩, by rw [e]; exact Int.le_refl _, ?_⟩
    rw [e]
    exact Int.mul_lt_mul_of_pos_right hLU hb
  · have hb : 0 < -b := by omega
    have e : a * -b + b * (a - L) = L * -b := by grind
    refine ⟨a - L, -b, hb, ⟨by omega, by omega⟩, by rw [e]; exact Int.le_refl _, ?_⟩
    rw [e]
    exact Int.mul_lt_mul_of_pos_right hLU hb
/-- a straight line that goes to the right, rising -/
theorem both_up {L1 U1 L2 U2 a b c d : Int} (hb : 0 < b) (hd : 0 < d) (u1 : L1 < U1) (u2 : L2 < U2) (h1 : b * c + d * L1 < b * U2 + d * a) (h2 : d * a + b * L2 < d * U1 + b * c) : ∃ P Q, 0 < Q ∧ In1 L1 U1 a b P Q ∧ In1 L2 U2 c d P Q := by
  unfold In1
  by_cases k : b * L2 ≤ b * c + d * L1 - d * a
  · have e1 : a * b + b * (L1 - a) = L1 * b := by grind
    have e2 : c * b + d * (L1 - a) = b * c + d * L1 - d * a := by grind
    refine ⟨L1 - a, b, hb, ⟨by rw [e1]; exact Int.le_refl _, by rw [e1]; exact Int.mul_lt_mul_of_pos_right u1 hb⟩, by rw [e2, Int.mul_comm L2]; exact k, by rw [e2, Int.mul_comm U2]; omega⟩
  · have e1 : c * d + d * (L2 - c) = L2 * d := by grind
    have e2 : a * d + b * (L2 - c) = d * a + b * L2 - b * c := by grind
    refine ⟨L2 - c, d, hd, ⟨by rw [e2, Int.mul_comm L1]; omega, by rw [e2, Int.mul_comm U1]; omega⟩, by rw [e1]; exact Int.le_refl _, by rw [e1]; exact Int.mul_lt_mul_of_pos_right u2 hd⟩
/-- one that goes to the right, falling by e -/
theorem both_down {L1 U1 L2 U2 a b c e : Int} (hb : 0 < b) (he : 0 < e) (u1 : L1 < U1) (u2 : L2 < U2) (h3 : e * a + b * c < e * U1 + b * U2) (h4 : e * L1 + b * L2 ≤ e * a + b * c) : ∃ P Q, 0 < Q ∧ In1 L1 U1 a b P Q ∧ In1 L2 U2 c (-e) P Q := by
  unfold In1
  have m1 := Int.mul_lt_mul_of_pos_left u1 he
  have m2 := Int.mul_lt_mul_of_pos_left u2 hb
  by_cases k : b * c + e * a < b * U2 + e * L1
  · have e1 : a * b + b * (L1 - a) = L1 * b := by grind
    have e2 : c * b + -e * (L1 - a) = b * c - e * L1 + e * a := by grind
    refine ⟨L1 - a, b, hb, ⟨by rw [e1]; exact Int.le_refl _, by rw [e1]; exact Int.mul_lt_mul_of_pos_right u1 hb⟩, by rw [e2, Int.mul_comm L2]; omega, by rw [e2, Int.mul_comm U2]; omega⟩
  by_cases k2 : e * a + b * c < e * U1 + b * L2
  · have e1 : c * e + -e * (c - L2) = L2 * e := by grind
    have e2 : a * e + b * (c - L2) = e * a + b * c - b * L2 := by grind
    refine ⟨c - L2, e, he, ⟨by rw [e2, Int.mul_comm L1]; omega, by rw [e2, Int.mul_comm U1]; omega⟩, by rw [e1]; exact Int.le_refl _, by rw [e1]; exact Int.mul_lt_mul_of_pos_right u2 he⟩
  · have e1 : a * (2 * b * e) + b * ((c - U2) * b + (U1 - a) * e) = (e * a + b * c - b * U2 + e * U1) * b := by grind
    have e2 : c * (2 * b * e) + -e * ((c - U2) * b + (U1 - a) * e) = (b * c + b * U2 - e * U1 + e * a) * e := by grind
    have f1 : L1 * (2 * b * e) = (2 * (e * L1)) * b := by grind
    have f2 : U1 * (2 * b * e) = (2 * (e * U1)) * b := by grind
    have f3 : L2 * (2 * b * e) = (2 * (b * L2)) * e := by grind
    have f4 : U2 * (2 * b * e) = (2 * (b * U2)) * e := by grind
    refine ⟨(c - U2) * b + (U1 - a) * e, 2 * b * e, Int.mul_pos (by omega) he, ⟨?_, ?_⟩, ?_, ?_⟩
    · rw [e1, f1]
      exact Int.mul_le_mul_of_nonneg_right (by omega) (Int.le_of_lt hb)
    · rw [e1, f2]
      exact Int.mul_lt_mul_of_pos_right (by omega) hb
    · rw [e2, f3]
      exact Int.mul_le_mul_of_nonneg_right (by omega) (Int.le_of_lt he)
    · rw [e2, f4]
      exact Int.mul_lt_mul_of_pos_right (by omega) he
end Cl

namespace Cl
open PySem PySem.Spec PyProof.Rows L2
section
variable {X : Cx}
theorem bool_beq (a b : Bool) : (Value.bool a == Value.bool b) = decide (a = b) := by
  cases a <;> cases b <;> rfl
theorem op_isB : OpR X (compareOp .Is) (fun x y H Q => ∃ a b, x = .bl a ∧ y = .bl b ∧ Q (.bl (decide (a = b))) H) := by
  intro pins s σ H x y v u Q I rx ry h
  obtain ⟨a, b, rfl, rfl, q⟩ := h
  cases rx
  cases ry
  exact wpAny_is_plain rfl (fin_bl I q (bool_beq a b).symm)
theorem op_isNotB : OpR X (compareOp .IsNot) (fun x y H Q => ∃ a b, x = .bl a ∧ y = .bl b ∧ Q (.bl (!decide (a = b))) H) := by
  intro pins s σ H x y v u Q I rx ry h
  obtain ⟨a, b, rfl, rfl, q⟩ := h
  cases rx
  cases ry
  exact wpAny_isNot_plain rfl (fin_bl I q (congrArg not (bool_beq a b).symm))
end
end Cl

set_option maxHeartbeats 0
namespace Cl
open PySem PySem.Spec PyProof.Rows L2
/-! ### a lambda of one parameter, made within a def, handed to max as key -/
/-- the table at P: what it tells are the objects at cs -/
def TabAt (P : Addr) (cs : List Addr) : HO := .ext fun h => ∃ ps : Array Value, h.get? P = some { cls := .none, data := .fields ps } ∧ TriplesOk ps.toList ∧ ∀ (pos : Pos) (cv : Value), codeAmong pos ps.toList = some cv → ∃ c ∈ cs, cv = .ref c
/-- the lambda table at P stands: its codes bear the name q -/
def LT (H : Hp) (P : Addr) (q : Str) : Prop := ∃ cs : List Addr, H P = some (TabAt P cs) ∧ ∀ c ∈ cs, c ≠ P ∧ H c = some (LamX.CodeO c q)
theorem Same.lt {H H' : Hp} {P : Addr} {q : Str} (s : Same H H') (t : LT H P q) : LT H' P q := by
  obtain ⟨cs, h1, h2⟩ := t
  exact ⟨cs, s _ _ h1, fun c hc => ⟨(h2 c hc).1, s _ _ (h2 c hc).2⟩⟩
/-- all but the table at P stays -/
def SameX (P : Addr) (H H' : Hp) : Prop := ∀ b o, b ≠ P → H b = some o → Keep (H' b) o
theorem SameX.trans {P : Addr} {H H1 H2 : Hp} (a : SameX P H H1) (b : SameX P H1 H2) : SameX P H H2 := fun c o n h => by
  have k := a c o n h
  cases o with
  | tbl ps => exact fun t => let ⟨ps1, e1, t1⟩ := k t; b c (.tbl ps1) n e1 t1
  | _ => exact b c _ n k
theorem Same.x {P : Addr} {H H' : Hp} (a : Same H H') : SameX P H H' := fun b o _ e => a b o e
section
variable {X : Cx} {pins : List (Addr × Obj)} {σ : L2.St} {H : Hp} {s : Shared}
theorem inv_tabE {P c : Addr} {q : Str} {cs : List Addr} {ps more : Array Value} {h' : Heap} {t' : Nat} (I : Inv X pins σ H s) (hP : H P = some (TabAt P cs)) (k : ∀ b o, b ≠ P → s.heap.get? b = some o → h'.get? b = some o)
    (hm : h'.get? P = some { cls := .none, data := .fields (ps ++ more) }) (ht : TriplesOk (ps ++ more).toList) (ha : ∀ (pos : Pos) (cv : Value), codeAmong pos (ps ++ more).toList = some cv → ∃ c' ∈ c :: cs, cv = .ref c') (hc : s.heap.objs.size ≤ c) (ho : ∃ (oc : Obj) (vs : Array Value) (t : Tok), h'.get? c = some oc ∧ oc.data = .fields vs ∧ vs[1]? = some (.str q t)) :
    Inv X pins σ (upd (upd H P (TabAt P (c :: cs))) c (LamX.CodeO c q)) { s with heap := h', toks := t' } := by
  have nC : H c = none := I.hok.fresh hc
  have nPc : P ≠ c := ne_of_none hP nC
  have at_ : ∀ b, b ≠ P → b ≠ c → upd (upd H P (TabAt P (c :: cs))) c (LamX.CodeO c q) b = H b := fun b h1 h2 => by rw [upd_ne h2, upd_ne h1]
  have atP : upd (upd H P (TabAt P (c :: cs))) c (LamX.CodeO c q) P = some (TabAt P (c :: cs)) := by rw [upd_ne nPc, upd_same]
  have nP : ∀ b u, H b = some u → (∀ φ, u ≠ .ext φ) → b ≠ P := fun b u e q z => by
    rw [z, hP] at e
    exact q _ (Option.some.inj e).symm
  have nN : ∀ b, H b = none → b ≠ P := fun b e z => by
    rw [z, hP] at e
    cases e
  have lt' : ∀ b o, s.heap.get? b = some o → b ≠ c := fun b o e z => by
    rw [z] at e
    exact Nat.lt_irrefl _ (Nat.lt_of_lt_of_le (Heap.lt_size e) hc)
  have sm : ∀ b u, H b = some u → b ≠ c := fun b u e => ne_of_none e nC
  refine I.step (g' := s.gens) (d' := s.drawn) (ch := []) (fun b hb => absurd hb (by simp)) (fun b o _ _ _ e n => k b o (nN b n) e) (fun b o _ _ _ e n => ⟨o.slots, k b o (nN b n) e⟩)
    (fun b o _ e n => by rw [at_ b (nN b n) (lt' b o e)]; exact n) (fun b o _ e => ?_) (fun b xs e => by rw [at_ b (nP b _ e (fun q z => by cases z)) (sm b _ e)]; exact e) (fun b o u e => by rw [at_ b (nP b _ e (fun q z => by cases z)) (sm b _ e)]; exact e) (fun b qs e => ?_) (fun m hn => ?_) (fun b u e => ?_) I.bare
  · by_cases hb : b = P
    · rw [hb]
      exact ⟨_, hm⟩
    · exact ⟨o, k b o hb e⟩
  · rw [at_ b (nP b _ e (fun q z => by cases z)) (sm b _ e), e]
    exact ⟨#[], by simp⟩
  · obtain ⟨ob, es, ep, ho, r⟩ := hn
    exact ⟨ob, es, ep, k _ ob (nN _ I.free) ho, r⟩
  · by_cases hb : b = c
    · rw [hb, upd_same] at e
      cases e
      rw [hb]
      obtain ⟨oc, vs, t, e1, e2, e3⟩ := ho
      exact ⟨⟨oc, vs, t, e1, e2, e3⟩, ⟨oc, e1⟩, fun h1 h2 ⟨oc, vs, t, a, b, c⟩ st => ⟨oc, vs, t, st _ a, b, c⟩⟩
    · by_cases hb2 : b = P
      · rw [hb2, atP] at e
        cases e
        rw [hb2]
        exact ⟨⟨_, hm, ht, ha⟩, ⟨_, hm⟩, fun h1 h2 ⟨ps, a, b, c⟩ st => ⟨ps, st _ a, b, c⟩⟩
      · rw [at_ b hb2 hb] at e
        refine (I.hok b u e).stay (fun d v hd q => k d v ?_ q) (fun d q => by rw [at_ d (nP d _ q (fun q z => by cases z)) (sm d _ q)]; exact q) fun d xs q => by rw [at_ d (nP d _ q (fun q z => by cases z)) (sm d _ q)]; exact q
        rcases hd with z | z
        · rw [z]
          exact hb2
        · exact nP d _ z (fun q z => by cases z)
/-- the lambda's object -/
def LamO (X : Cx) (params : Arguments) (body : Expr) (scope : Scope) (c' f : Addr) : HO := .ext fun h => ∃ pm ctv : Value, h.get? f = some (PySem.W.kla_obj "<lambda>" (X.env.qual ++ "<lambda>") params body scope (cloFrom X.env.cells scope.names []) pm c' ctv)
theorem lam_make3 {c P : Addr} {params : Arguments} {body : Expr} {scope : Scope} {pos : Pos} {E : Value → Shared → Prop} {Q : Value → Shared → Prop} (I : Inv X pins σ H s) (TB : GxR.TabB X.base X.mg c P) (hcode : X.env.code = .ref c)
    (hT : LT H P (X.env.qual ++ "<lambda>")) (hdef : defaultsOf params X.env = ([], [])) (hfree : ∀ y ∈ scope.names, y.2 = .free → ∃ c, X.env.cells.lookup y.1 = some c)
    (h : ∀ (f c' : Addr) (H1 : Hp) (s' : Shared), Inv X pins σ H1 s' → SameX P H H1 → LT H1 P (X.env.qual ++ "<lambda>") →
      H1 f = some (LamO X params body scope c' f) → H1 c' = some (LamX.CodeO c' (X.env.qual ++ "<lambda>")) → Q (.ref f) s') :
    wpAny (model X.prog X.w) X.A (eval (.Lambda params body scope pos) X.env) Q E s := by
  obtain ⟨cs, hP, hcs⟩ := hT
  obtain ⟨⟨ps, hP', ht, ha⟩, _, _⟩ := I.hok P _ hP
  refine PySem.W.kla_eval hdef ?_
  have bP : s.heap.BuiltinsAt X.mg P := TB.bm.keeps I.bk
  have fin : ∀ (f c' : Addr) (pm ctv : Value) (H1 : Hp) (s' : Shared) (o : Obj) (tk : Nat), Inv X pins σ H1 { s' with toks := tk } → SameX P H H1 → LT H1 P (X.env.qual ++ "<lambda>") → H1 c' = some (LamX.CodeO c' (X.env.qual ++ "<lambda>")) → s'.heap.objs.size = f →
      o = PySem.W.kla_obj "<lambda>" (X.env.qual ++ "<lambda>") params body scope (cloFrom X.env.cells scope.names []) pm c' ctv → Q (.ref f) { s' with heap := s'.heap.push o, toks := tk } := by
    intro f c' pm ctv H1 s' o tk J sx lt hc hf ho
    have hg : (s'.heap.push o).get? f = some o := by rw [← hf, ho]; exact Heap.get?_push_size _ rfl
    have nf : H1 f = none := J.hok.fresh (by show s'.heap.objs.size ≤ f; rw [hf]; exact Nat.le_refl _)
    have J2 := J.laid (a := f) (o := LamO X params body scope c' f) (h' := s'.heap.push o) (t' := tk) (fun b u e => Heap.get?_push_of_some _ e) (by show s'.heap.objs.size ≤ f; rw [hf]; exact Nat.le_refl _)
      ⟨⟨pm, ctv, by rw [hg, ho]⟩, ⟨o, hg⟩, fun h1 h2 ⟨pm, ctv, a⟩ st => ⟨pm, ctv, st _ a⟩⟩
    have sn := same_new (o := LamO X params body scope c' f) nf
    exact h f c' _ _ J2 (sx.trans sn.x) (sn.lt lt) upd_same (sn _ _ hc)
  cases hc : codeAmong pos ps.toList with
  | none =>
    refine PySem.W.kla_makeFunction (mg := X.mg) (c := c) (P := P) (ps := ps) (closure_ok hfree) I.ok.glob (I.mod.glob.keeps I.bk) hcode (TB.code.keeps I.bk) hP' ht hc TB.gP bP fun c' ctv h' tk hx hge hlt hrec htb => ?_
    obtain ⟨c2, oc, vs, t, e2, hoc, hd, hv⟩ := hrec
    cases e2
    have nC : H c' = none := I.hok.fresh hge
    have eL : (ps ++ #[rawInt pos.line, rawInt pos.col, .ref c']).toList = ps.toList ++ [rawInt pos.line, rawInt pos.col, .ref c'] := by simp
    have I1 := inv_tabE (t' := tk) (ps := ps) (more := #[rawInt pos.line, rawInt pos.col, .ref c']) (c := c') (q := X.env.qual ++ "<lambda>") (h' := h') I hP
      (fun b o hb e => hx b o hb e) htb (by rw [eL]; exact PySem.TriplesOk_snoc _ _ _ _ ht) (fun p' cv hcv => by
        rw [eL] at hcv
        rcases LamX.among_app _ ht hcv with z | z
        · obtain ⟨c0, e1, e2⟩ := ha p' cv z
          exact ⟨c0, List.mem_cons_of_mem _ e1, e2⟩
        · exact ⟨c', List.mem_cons_self .., z⟩) hge ⟨oc, vs, t, hoc, hd, hv⟩
    refine fin h'.objs.size c' ((X.mg "__name__").getD .none) ctv _ { s with heap := h' } _ tk I1 (fun b o nb e => ?_) ⟨c' :: cs, ?_, fun c0 h0 => ?_⟩ upd_same rfl rfl
    · rw [upd_ne (ne_of_none e nC), upd_ne nb]
      exact .of e
    · rw [upd_ne (ne_of_none hP nC), upd_same]
    · rcases List.mem_cons.mp h0 with rfl | h0
      · exact ⟨(ne_of_none hP nC).symm, upd_same⟩
      · obtain ⟨n0, e⟩ := hcs c0 h0
        refine ⟨n0, ?_⟩
        rw [upd_ne (ne_of_none e nC), upd_ne n0]
        exact e
  | some cv =>
    obtain ⟨c', hm, e⟩ := ha pos cv hc
    subst e
    refine PySem.W.kla_makeFunctionHit (mg := X.mg) (c := c) (P := P) (ps := ps) (closure_ok hfree) I.ok.glob (I.mod.glob.keeps I.bk) hcode (TB.code.keeps I.bk) hP' ht hc bP fun ctv h' tk hx hsz => ?_
    have I1 : Inv X pins σ H { s with heap := h', toks := tk } := I.kept hx
    exact fin h'.objs.size c' ((X.mg "__name__").getD .none) ctv H { s with heap := h' } _ tk I1 (fun b o _ e => .of e) ⟨cs, hP, hcs⟩ (hcs c' hm).2 rfl rfl
end
end Cl

set_option maxHeartbeats 0
namespace Cl
open PySem PySem.Spec PyProof.Rows L2
/-- a lambda's scope: its one parameter a, captured names, globals -/
structure LamK (sc scope : Scope) (a : Str) : Prop where
  kind : scope.kind = .function
  co : scope.isCoroutine = false
  gen : scope.isGenerator = false
  nocell : ∀ y ∈ scope.names, y.2 ≠ .cell
  own : ∀ y ∈ scope.names, y.2 = .local → y.1 = a
  par : scope.names.lookup a = some .local
  free : ∀ y ∈ scope.names, y.2 = .free → sc.names.lookup y.1 = some .cell ∨ sc.names.lookup y.1 = some .free
def lamKB (sc scope : Scope) (a : Str) : Bool :=
  decide (scope.kind = .function) && (!scope.isCoroutine && (!scope.isGenerator && (decide (scope.names.lookup a = some .local) && scope.names.all fun y => !decide (y.2 = .cell) && ((!decide (y.2 = .local) || decide (y.1 = a)) && (!decide (y.2 = .free) || (decide (sc.names.lookup y.1 = some .cell) || decide (sc.names.lookup y.1 = some .free)))))))
theorem lamK_by {sc scope : Scope} {a : Str} (h : lamKB sc scope a = true) : LamK sc scope a := by
  unfold lamKB at h
  simp only [Bool.and_eq_true, Bool.or_eq_true, Bool.not_eq_true', decide_eq_true_eq, decide_eq_false_iff_not, List.all_eq_true] at h
  obtain ⟨h1, h2, h3, h4, h5⟩ := h
  refine ⟨h1, h2, h3, fun y hy => (h5 y hy).1, fun y hy e => ?_, h4, fun y hy e => ?_⟩
  · rcases (h5 y hy).2.1 with z | z
    · exact absurd e z
    · exact z
  · rcases (h5 y hy).2.2 with z | z
    · exact absurd e z
    · exact z
theorem LamK.has {X : Cx} {scope : Scope} {a : Str} (L : LamK X.env.scope scope a) (ok : X.Ok) : ∀ y ∈ scope.names, y.2 = .free → ∃ c, X.env.cells.lookup y.1 = some c := fun y hy e => by
  rcases L.free y hy e with k | k
  · exact ok.has _ (.inl k)
  · exact ok.has _ (.inr k)
/-- the context of the lambda's body -/
def lamCx1 (X : Cx) (a : Str) (A : Around) (outer : List Env) (s : Shared) (H : Hp) (scope : Scope) (f c' : Addr) : Cx where
  prog := X.prog
  w := X.w
  K := X.K
  mg := X.mg
  base := X.base
  A := A.deeper (LamX.lamEnv X scope s.heap.objs.size f c')
  N := a :: X.N
  s_0 := s
  H_0 := H
  env := LamX.lamEnv X scope s.heap.objs.size f c'
  outer := outer
  stack := LamX.lamEnv X scope s.heap.objs.size f c' :: outer
  ex := []
  fn := fun _ => false
  calm := true
  pn := []
  xe := fun _ _ => False
section
variable {X : Cx} {pins : List (Addr × Obj)} {σ : L2.St} {H : Hp} {s : Shared}
theorem lam_start1 {A : Around} {outer : List Env} {scope : Scope} {a : Str} {v : V} {u : Value} {f c' : Addr} {h₁ : Heap} {tk : Nat} (I : Inv X pins σ H s) (L : LamK X.env.scope scope a) (e0 : Env0 X.prog X.w X.K X.mg X.base A outer s H) (hd : A.handled = none) (ha : a ∉ X.N) (r : RelV v u)
    (hns : h₁.Ns s.heap.objs.size fun y => ([(a, u)] : List (Str × Value)).reverse.lookup y) (kp : ∀ b o, s.heap.get? b = some o → h₁.get? b = some o) :
    Inv (lamCx1 X a A outer s H scope f c') [] (some v :: σ) H { s with heap := h₁, toks := tk } := by
  have hfree := L.has I.ok
  have cm : ∀ {y c}, (cloFrom X.env.cells scope.names []).lookup y = some c → X.env.cells.lookup y = some c := fun {y c} e => by
    rcases cloFrom_mem (PySem.mem_of_lookup e) with hm | ⟨h1, h2⟩
    · cases hm
    · obtain ⟨c1, hc⟩ := hfree _ h1 rfl
      have hc : X.env.cells.lookup y = some c1 := hc
      have e2 : c = c1 := by
        rw [h2, hc] <;> rfl
      rw [e2]
      exact hc
  have look : ∀ {y}, scope.names.lookup y = some .free → ∃ c, (cloFrom X.env.cells scope.names []).lookup y = some c := fun {y} hl => by
    have hy : (y, NameKind.free) ∈ scope.names := PySem.mem_of_lookup hl
    exact mem_lookup (cloFrom_has (cells := X.env.cells) (acc := []) hy)
  have cellK : ∀ {c : Addr} {v : Option Value}, H c = none → s.heap.IsCell c v → h₁.IsCell c v := fun {c v} n ⟨o, ho, hd⟩ => ⟨_, kp _ _ ho, hd⟩
  have noA : ∀ b : Addr, b ∉ (lamCx1 X a A outer s H scope f c').ex := fun b z => absurd (show b ∈ ([] : List Addr) from z) (by simp)
  refine ⟨⟨e0.mod, L.kind, rfl, rfl, Nat.le_refl _, fun y z c e1 e2 => I.ok.inj y z c (cm e1) (cm e2), fun y hy => ?_, fun y c z _ => ?_, fun _ => hd, Around.frames_deeper e0.frames, .inr ⟨rfl, rfl⟩, fun b z => absurd z (noA b), e0.bs, e0.bsz, fun b _ _ => noA b,
      fun b z => absurd z (noA b), e0.funs, e0.frf⟩,
    rfl, e0.bare, Un.kept kp, ⟨_, hns, fun i y v' e1 e2 e3 => ?_⟩, fun y c e => ?_, e0.hok.fresh (Nat.le_refl _), fun y c e => ?_, fun q hq => absurd (show q ∈ ([] : List (Addr × Obj)) ++ [] from hq) (by simp), e0.hok.kept kp, ?_⟩
  · have hy : scope.names.lookup y = some .cell ∨ scope.names.lookup y = some .free := hy
    rcases hy with hy | hy
    · exact absurd rfl (L.nocell _ (PySem.mem_of_lookup hy))
    · exact look hy
  · have z : false = true := z
    cases z
  · have e3 : Vis scope y := e3
    cases i with
    | zero =>
      have e1 : some a = some y := e1
      have e2 : some (some v) = some (some v') := e2
      cases e1
      cases e2
      refine ⟨u, r, .inl ⟨L.par, ?_⟩⟩
      show List.lookup a [(a, u)] = some u
      simp
    | succ i =>
      have e1 : X.N[i]? = some y := e1
      have e2 : σ[i]? = some (some v') := e2
      rcases e3 with k | k | k
      · exact absurd (by rw [← L.own _ (PySem.mem_of_lookup k) rfl]; exact List.mem_of_getElem? e1) ha
      · exact absurd rfl (L.nocell _ (PySem.mem_of_lookup k))
      · obtain ⟨m, hn, hl⟩ := I.loc
        have hvis : Vis X.env.scope y := (L.free _ (PySem.mem_of_lookup k) rfl).elim (fun k => .inr (.inl k)) (fun k => .inr (.inr k))
        obtain ⟨w', r, q⟩ := hl i y v' e1 e2 hvis
        obtain ⟨c2, h2⟩ := look k
        refine ⟨w', r, .inr ⟨.inr k, c2, h2, ?_⟩⟩
        have c1 := cm h2
        rcases q with ⟨k', _⟩ | ⟨_, c3, e', z⟩
        · have k' : X.env.scope.names.lookup y = some .local := k'
          rcases L.free _ (PySem.mem_of_lookup k) rfl with k2 | k2 <;> rw [show X.env.scope.names.lookup y = _ from k2] at k' <;> cases k'
        · rw [c1] at e'
          cases e'
          exact cellK (I.freeC y _ c1) z
  · obtain ⟨w', z⟩ := I.cell y c (cm e)
    exact ⟨w', cellK (I.freeC y c (cm e)) z⟩
  · exact I.freeC y c (cm e)
  · show (some v :: σ).length = (a :: X.N).length
    rw [List.length_cons, List.length_cons, I.len]
/-- the lambda called within a built-in -/
theorem call_key {k : Nat} {params : Arguments} {body : Expr} {scope : Scope} {a : Str} {f c' : Addr} {v : V} {u : Value} {t : TE} {Q : VK} (I : Inv X pins σ H s) (L : LamK X.env.scope scope a) (ha : a ∉ X.N) (hf : H f = some (LamO X params body scope c' f)) (hc : H c' = some (LamX.CodeO c' (X.env.qual ++ "<lambda>")))
    (hbind : ∀ (q : Str) (cl : List (Str × Addr)) (pm cv ctv u : Value), bindArgs (PySem.W.kla_fn "<lambda>" q params body scope cl pm cv ctv) ⟨[u], []⟩ = pure [(a, u)])
    (hr : RG (k + 2) X.A) (hbody : ∀ (A : Around) (outer : List Env) (s : Shared) (H : Hp), RG k (A.deeper (LamX.lamEnv X scope s.heap.objs.size f c')) → PE (lamCx1 X a A outer s H scope f c') body t)
    (r : RelV v u) (ht : t (some v :: σ) H Q) :
    wpAny (model X.prog X.w) X.A.in1 (call (.ref f) [u]) (EP X pins σ Q) (fun _ _ => False) s := by
  obtain ⟨⟨pm, ctv, of1⟩, _, _⟩ := I.hok f _ hf
  obtain ⟨⟨oc, vs, tt, hoc, hdc, hvc⟩, _, _⟩ := I.hok c' _ hc
  have hr1 : RG (k + 1) X.A.in1 := ⟨hr.room.in1, hr.gd⟩
  have e0 : Env0 X.prog X.w X.K X.mg X.base X.A.in1 X.stack s H := ⟨I.ok.frames, I.ok.mod, I.bs, Nat.le_trans I.ok.bsz I.sz, I.stack, I.stkFree, I.hok, I.bare⟩
  have rc : codeAny (model X.prog X.w) X.A.in1 (.call (.ref f) ⟨[u], []⟩) (CR CX0 X.stack X.prog X.w H s Q E0) s := by
    refine PySem.W.kla_callFunE hr1.room.depth of1 rfl L.co L.gen rfl ⟨c', oc, vs, tt, rfl, hoc, hdc, hvc⟩ ?_
    rw [hbind]
    refine wpAny_pure (wpAny_newFunctionEnv (fun y hy => L.nocell y hy) (fun y hy => by rw [List.mem_singleton.mp hy]; exact L.par) (fun h₁ hns hsb => ⟨I.nolimit.fresh _ hsb, ?_⟩) L.kind)
    show codeAny _ _ (.expr body (LamX.lamEnv X scope s.heap.objs.size f c')) _ _
    have kp : ∀ b o, s.heap.get? b = some o → h₁.get? b = some o := fun b o e => hsb.extBut b o (Nat.ne_of_lt (Heap.lt_size e)) (Heap.get?_push_of_some _ e)
    have J := lam_start1 (f := f) (c' := c') (tk := s.toks + 1) I L e0 hr1.room.hd ha r hns kp
    have hr2 : RG k (X.A.in1.deeper (LamX.lamEnv X scope s.heap.objs.size f c')) := ⟨hr1.room.deeper _, hr1.gd⟩
    refine PySem.W.kla_codeExpr (wpAny_mono ((hbody X.A.in1 X.stack s H hr2).run [] _ _ H Q J ht) (fun v s' hq => ?_) fun e s' hq => (show False from hq).elim)
    obtain ⟨w', H', J', rv, q⟩ := hq
    exact ⟨w', H', J'.os, J'.bare, J'.base, J'.hok, rv, q⟩
  refine wpAny_call (codeAny_mono rc fun r s' hq => ?_)
  cases r with
  | error e => exact hq.elim
  | ok fl =>
    cases fl with
    | ret u => exact I.after hq
    | next => exact False.elim hq
    | brk => exact False.elim hq
    | cont => exact False.elim hq
end
end Cl

set_option maxHeartbeats 0
namespace Cl
open PySem PySem.Spec PyProof.Rows L2
section
variable {X : Cx} {pins : List (Addr × Obj)} {σ : L2.St} {H0 H : Hp} {s : Shared}
theorem Same.tupS {H H' : Hp} {t : Addr} {vs : List V} (s : Same H H') (h : SqT X.K H t vs) : SqT X.K H' t vs := seT s h
theorem max_loopI {t f S It : Addr} {vs : List V} {R : Result → Shared → Prop} (kf : Nat → Int) (hh : X.A.handled = none) (hS : SqT X.K H0 t vs) (hSI : S ≠ It) (htI : t ≠ It)
    (fS : ∀ H', H' S = none → FpOk X pins H' S) (fI : ∀ H', H' It = none → FpOk X pins H' It)
    (turn : ∀ (i : Nat) (x : V) (u : Value) (pins' : List (Addr × Obj)) (H : Hp) (s : Shared), vs[i]? = some x → RelV x u → Inv X pins' σ H s → Same H0 H →
      wpAny (model X.prog X.w) X.A.in1 (call (.ref f) [u]) (EP X pins' σ (fun y H' => y = .int (kf i) ∧ Same H0 H')) (fun _ _ => False) s)
    (hR : ∀ (i : Nat) (x : V) (u : Value) (H : Hp) (s : Shared), vs[i]? = some x → RelV x u → (∀ j, j < vs.length → kf i ≥ kf j ∧ (j < i → kf i > kf j)) → Inv X pins σ H s → Same H0 H → R (.ok (.ret u)) s) :
    ∀ (r j i : Nat) (H : Hp) (s : Shared) (xb : V) (ub : Value) (tb : Tok) (c : Nat), vs.length - (j + 1) = r → j + 1 ≤ vs.length → Inv X pins σ H s → Same H0 H → H S = none → H It = none →
      s.heap.get? S = some (seqObj "list" #[ub, .int (kf i) tb] c) → s.heap.IsTupleIter It t (j + 1) → vs[i]? = some xb → RelV xb ub → i ≤ j → (∀ j', j' ≤ j → kf i ≥ kf j' ∧ (j' < i → kf i > kf j')) →
      codeAny (model X.prog X.w) X.A (.builtin "max.loop" ⟨[.ref It, .ref f, .ref S], []⟩) R s := by
  have hname : (toString "max" ++ toString ".loop" : String) = "max.loop" := by decide
  intro r
  induction r with
  | zero =>
    intro j i H s xb ub tb c hr hj I sm nS nI gS hit hxb hub hij hbest
    have hin : j + 1 = vs.length := by omega
    obtain ⟨its, rv, tup, hz⟩ := I.tuple (seT sm hS)
    have W := Walks.tuple (prog := X.prog) (w := X.w) (A := X.A.in1) hh It t htI its.toArray
    have hsz : its.toArray.size = vs.length := by rw [List.size_toArray]; exact rv.length.symm
    refine codeAny_builtin PySem.F.entry_max_loop ?_
    rw [Around.under_plainId PySem.F.plain_max_loop _]
    show wpAny _ X.A.in1 (seqItems? (.ref S) >>= _) _ _ _
    refine wpAny_bind (wpAny_seqItems gS rfl ?_)
    show wpAny _ X.A.in1 (tryCatch (pyNext (.ref It)) _ >>= _) _ _ _
    refine wpAny_bind (wpAny_tryCatch (W.done _ _ _ ⟨by rw [hsz, ← hin]; exact hit, tup⟩ fun h' tk' hk' => ?_))
    obtain ⟨_, i1, i2, i3, i4, i5⟩ := fI H nI
    obtain ⟨_, s1, s2, s3, s4, s5⟩ := fS H nS
    have I1 := I.turned (h' := h') (t' := tk') (it := It) (fun b o hb e => hk' b o (by simpa using hb) e) nI i1 i3 i4 i5
    have gS' := hk' S _ (by simpa using hSI) gS
    show wpAny _ X.A.in1 (updateSeq S (fun _ => #[]) >>= _) _ _ _
    refine wpAny_bind ?_
    refine wpAny_updateSeq gS' rfl (wpAny_bind (wpAny_letGo (wpAny_pure ?_)))
    have I2 := I1.turned (h' := h'.update S (Obj.mapSeq fun _ => (#[] : Array Value))) (t' := tk') (it := S) (fun b o hb e => (Heap.get?_update_ne _ _ _ _ hb).trans e) nS s1 s3 s4 s5
    exact hR i xb ub H _ hxb hub (fun j' hj' => hbest j' (by omega)) I2 sm
  | succ r ih =>
    intro j i H s xb ub tb c hr hj I sm nS nI gS hit hxb hub hij hbest
    have hlt : j + 1 < vs.length := by omega
    obtain ⟨its, rv, tup, hz⟩ := I.tuple (seT sm hS)
    have W := Walks.tuple (prog := X.prog) (w := X.w) (A := X.A.in1) hh It t htI its.toArray
    have hsz : its.toArray.size = vs.length := by rw [List.size_toArray]; exact rv.length.symm
    refine codeAny_builtin PySem.F.entry_max_loop ?_
    rw [Around.under_plainId PySem.F.plain_max_loop _]
    show wpAny _ X.A.in1 (seqItems? (.ref S) >>= _) _ _ _
    refine wpAny_bind (wpAny_seqItems gS rfl ?_)
    show wpAny _ X.A.in1 (tryCatch (pyNext (.ref It)) _ >>= _) _ _ _
    refine wpAny_bind (wpAny_tryCatch (W.item (j + 1) _ _ _ (by rw [hsz]; exact hlt) ⟨hit, tup⟩ fun v h' tk' hP hst' hk' => ?_))
    have hv : its[j + 1]? = some v := by simpa using hP
    obtain ⟨x, hx⟩ : ∃ x, vs[j + 1]? = some x := ⟨_, List.getElem?_eq_getElem hlt⟩
    obtain ⟨v', ev, rel⟩ := rv.get hx
    obtain rfl : v' = v := Option.some.inj (ev.symm.trans hv)
    obtain ⟨_, i1, i2, i3, i4, i5⟩ := fI H nI
    obtain ⟨_, s1, s2, s3, s4, s5⟩ := fS H nS
    have I1 := I.turned (h' := h') (t' := tk') (it := It) (fun b o hb e => hk' b o (by simpa using hb) e) nI i1 i3 i4 i5
    have gS' := hk' S _ (by simpa using hSI) gS
    obtain ⟨oI', hoI', hoc, hod⟩ := id hst'.1
    have J : Inv X (pins ++ [(S, seqObj "list" #[ub, .int (kf i) tb] c), (It, oI')]) σ H { s with heap := h', toks := tk' } := I1.pins_of fun p hp => by
      rcases List.mem_append.mp hp with hp | hp
      · exact I1.pin p (List.mem_append_right _ hp)
      · rcases List.mem_cons.mp hp with rfl | hp
        · exact ⟨gS', nS, s1, s2, fun v z => nomatch z⟩
        · rw [List.mem_singleton.mp hp]
          exact ⟨hoI', nI, i1, i2, fun v z => by rw [show (It, oI').2.data = oI'.data from rfl, hod] at z; cases z⟩
    show wpAny _ X.A.in1 (tryCatch (holding [v'] (call (.ref f) [v'])) _ >>= _) _ _ _
    refine wpAny_bind (wpAny_tryCatch (wpAny_holding (wpAny_mono (turn (j + 1) x v' _ H _ hx rel J sm) (fun y s2 he => ?_) fun _ _ hF => hF.elim)))
    obtain ⟨yv, H2, J2, ry, rfl, sm2⟩ := he
    obtain ⟨t2, rfl⟩ := ry
    have pS := J2.pin (S, seqObj "list" #[ub, .int (kf i) tb] c) (List.mem_append_right _ (List.mem_append_right _ (.head _)))
    have pI := J2.pin (It, oI') (List.mem_append_right _ (List.mem_append_right _ (.tail _ (.head _))))
    have J3 : Inv X pins σ H2 s2 := J2.pins_of fun p hp => J2.pin p (List.mem_append_right _ (List.mem_append_left _ hp))
    have hit2 : s2.heap.IsTupleIter It t (j + 1 + 1) := ⟨oI', pI.1, hoc, hod⟩
    show wpAny _ X.A.in1 (tryCatch (holding [v', .int (kf (j + 1)) t2] (richCompare .Gt (.int (kf (j + 1)) t2) (.int (kf i) tb) >>= _)) _ >>= _) _ _ _
    refine wpAny_bind (wpAny_tryCatch (wpAny_holding (wpAny_bind (CmpOf.ints_gt (prog := X.prog) (w := X.w) (A := X.A.in1) (P := fun i v => ∃ t, v = .int (kf i) t) kf (fun i v h => h) (j + 1) i _ _ _ _ _ ⟨t2, rfl⟩ ⟨tb, rfl⟩ ?_))))
    refine wpAny_bind (wpAny_holding (wpAny_truthy_bool ?_))
    refine wpAny_bind (wpAny_letGo (wpAny_pure ?_))
    by_cases hb' : kf (j + 1) > kf i
    · obtain ⟨c2, hc2⟩ : ∃ c2, (s2.heap.update S (Obj.mapSeq fun _ => #[v', .int (kf (j + 1)) t2])).get? S = some (seqObj "list" #[v', .int (kf (j + 1)) t2] c2) := ⟨_, get?_update_seq pS.1 fun _ => #[v', .int (kf (j + 1)) t2]⟩
      simp only [hb', decide_true, if_true]
      refine wpAny_bind ?_
      refine wpAny_updateSeq pS.1 rfl (wpAny_bind (wpAny_letGo ?_))
      rw [hname]
      have I4 := J3.turned (h' := s2.heap.update S (Obj.mapSeq fun _ => #[v', .int (kf (j + 1)) t2])) (t' := s2.toks) (it := S) (fun b o hb e => (Heap.get?_update_ne _ _ _ _ hb).trans e) pS.2.1 s1 s3 s4 s5
      refine wpAny_pure ⟨plainId_quiet PySem.F.plain_max_loop _, ih (j + 1) (j + 1) H2 _ x v' t2 c2 (by omega) hlt I4 sm2 pS.2.1 pI.2.1 hc2 ⟨oI', (Heap.get?_update_ne _ _ _ _ hSI.symm).trans pI.1, hoc, hod⟩ hx rel (Nat.le_refl _) fun j' hj' => ?_⟩
      by_cases e : j' = j + 1
      · subst e
        exact ⟨by omega, fun _ => by omega⟩
      · have hb1 := hbest j' (by omega)
        have hb2 := hb1.1
        exact ⟨by omega, fun _ => by omega⟩
    · simp only [hb', decide_false, Bool.false_eq_true, if_false]
      refine wpAny_bind (wpAny_letGo ?_)
      rw [hname]
      refine wpAny_pure ⟨plainId_quiet PySem.F.plain_max_loop _, ih (j + 1) i H2 _ xb ub tb c (by omega) hlt J3 sm2 pS.2.1 pI.2.1 pS.1 hit2 hxb hub (by omega) fun j' hj' => ?_⟩
      by_cases e : j' = j + 1
      · subst e
        exact ⟨by omega, fun _ => by omega⟩
      · exact hbest j' (by omega)
/-- max(t, key=f), t a tuple -/
theorem max_keyI {t f : Addr} {vs : List V} {Q : Value → Shared → Prop} {E : Value → Shared → Prop} (kf : Nat → Int) (hh : X.A.handled = none) (I : Inv X pins σ H s) (hS : SqT X.K H t vs) (hne : 0 < vs.length)
    (turn : ∀ (i : Nat) (x : V) (u : Value) (pins' : List (Addr × Obj)) (H1 : Hp) (s : Shared), vs[i]? = some x → RelV x u → Inv X pins' σ H1 s → Same H H1 →
      wpAny (model X.prog X.w) X.A.in1 (call (.ref f) [u]) (EP X pins' σ (fun y H' => y = .int (kf i) ∧ Same H H')) (fun _ _ => False) s)
    (hQ : ∀ (i : Nat) (x : V) (u : Value) (H1 : Hp) (s : Shared), vs[i]? = some x → RelV x u → (∀ j, j < vs.length → kf i ≥ kf j ∧ (j < i → kf i > kf j)) → Inv X pins σ H1 s → Same H H1 → Q u s) :
    wpAny (model X.prog X.w) X.A (call (.builtin "max") [.ref t] [(Str.ofString "key", .ref f)]) Q E s := by
  have hname : (toString "max" ++ toString ".loop" : String) = "max.loop" := by decide
  obtain ⟨its, rv, tup, hz⟩ := I.tuple hS
  have htt : t < s.heap.objs.size := by obtain ⟨o, e, _⟩ := id tup; exact Heap.lt_size e
  refine kmk_tree PySem.F.kind_max PySem.F.plain_max PySem.F.entry_max (kmk_max_key _ _) ?_
  show wpAny _ X.A.in1 (Builtin.Builtins.bindParams "max" ["key", "default"] 0 ⟨[], [(Str.ofString "key", .ref f)]⟩ >>= _) _ _ s
  refine wpAny_bind (wpAny_of_eq (show Builtin.Builtins.bindParams "max" ["key", "default"] 0 ⟨[], [(Str.ofString "key", .ref f)]⟩ = pure [some (.ref f), none] from rfl) ?_)
  refine wpAny_bind (wpAny_pure ?_)
  refine wpAny_bind (wpAny_pyIter_tuple tup ?_)
  refine wpAny_bind (wpAny_newList ?_ (Nat.zero_le _))
  rw [hname]
  have hS1 : (s.heap.push { cls := .type "tuple_iterator", data := .fields #[.ref t, .int 0 0] }).objs.size = s.heap.objs.size + 1 := size_push' ..
  have htI : t ≠ s.heap.objs.size := Nat.ne_of_lt htt
  have hSI : (s.heap.push { cls := .type "tuple_iterator", data := .fields #[.ref t, .int 0 0] }).objs.size ≠ s.heap.objs.size := by rw [hS1]; exact Nat.ne_of_gt (Nat.lt_succ_self _)
  refine wpAny_pure ⟨plainId_quiet PySem.F.plain_max_loop _, ?_⟩
  have gI : ((s.heap.push { cls := .type "tuple_iterator", data := .fields #[.ref t, .int 0 0] }).push (seqObj "list" #[] 0)).get? s.heap.objs.size = some { cls := .type "tuple_iterator", data := .fields #[.ref t, .int 0 0] } :=
    Heap.get?_push_of_some _ (Heap.get?_push_size _ rfl)
  have gS : ((s.heap.push { cls := .type "tuple_iterator", data := .fields #[.ref t, .int 0 0] }).push (seqObj "list" #[] 0)).get? (s.heap.push { cls := .type "tuple_iterator", data := .fields #[.ref t, .int 0 0] }).objs.size = some (seqObj "list" #[] 0) := Heap.get?_push_size _ rfl
  have fI : ∀ H', H' s.heap.objs.size = none → FpOk X pins H' s.heap.objs.size := fun H' n => I.fpOk (Nat.le_refl _) n
  have fS : ∀ H', H' (s.heap.push { cls := .type "tuple_iterator", data := .fields #[.ref t, .int 0 0] }).objs.size = none → FpOk X pins H' (s.heap.push { cls := .type "tuple_iterator", data := .fields #[.ref t, .int 0 0] }).objs.size := fun H' n => I.fpOk (by rw [hS1]; exact Nat.le_succ _) n
  have nI : H s.heap.objs.size = none := I.hok.fresh (Nat.le_refl _)
  have nS : H (s.heap.push { cls := .type "tuple_iterator", data := .fields #[.ref t, .int 0 0] }).objs.size = none := I.hok.fresh (by rw [hS1]; exact Nat.le_succ _)
  have I0 : Inv X pins σ H { s with heap := (s.heap.push { cls := .type "tuple_iterator", data := .fields #[.ref t, .int 0 0] }).push (seqObj "list" #[] 0) } := I.kept (t' := s.toks) fun b o e => Heap.get?_push_of_some _ (Heap.get?_push_of_some _ e)
  have tup0 : ((s.heap.push { cls := .type "tuple_iterator", data := .fields #[.ref t, .int 0 0] }).push (seqObj "list" #[] 0)).IsTuple t its.toArray := by
    obtain ⟨o, e, r⟩ := id tup
    exact ⟨o, Heap.get?_push_of_some _ (Heap.get?_push_of_some _ e), r⟩
  generalize (s.heap.push { cls := .type "tuple_iterator", data := .fields #[.ref t, .int 0 0] }).objs.size = S at *
  generalize (s.heap.push { cls := .type "tuple_iterator", data := .fields #[.ref t, .int 0 0] }).push (seqObj "list" #[] 0) = h0 at *
  generalize s.heap.objs.size = It at *
  have W := Walks.tuple (prog := X.prog) (w := X.w) (A := X.A.in1) hh It t htI its.toArray
  have hsz : its.toArray.size = vs.length := by rw [List.size_toArray]; exact rv.length.symm
  refine codeAny_builtin PySem.F.entry_max_loop ?_
  rw [Around.under_plainId PySem.F.plain_max_loop _]
  show wpAny _ X.A.in1 (seqItems? (.ref _) >>= _) _ _ _
  refine wpAny_bind (wpAny_seqItems gS rfl ?_)
  show wpAny _ X.A.in1 (tryCatch (pyNext (.ref It)) _ >>= _) _ _ _
  refine wpAny_bind (wpAny_tryCatch (W.item 0 _ _ _ (by rw [hsz]; exact hne) ⟨⟨_, gI, rfl, rfl⟩, tup0⟩ fun v h' tk' hP hst' hk' => ?_))
  have hv : its[0]? = some v := by simpa using hP
  obtain ⟨x, hx⟩ : ∃ x, vs[0]? = some x := ⟨_, List.getElem?_eq_getElem hne⟩
  obtain ⟨v', ev, rel⟩ := rv.get hx
  obtain rfl : v' = v := Option.some.inj (ev.symm.trans hv)
  obtain ⟨_, i1, i2, i3, i4, i5⟩ := fI H nI
  obtain ⟨_, s1, s2, s3, s4, s5⟩ := fS H nS
  have I1 := I0.turned (h' := h') (t' := tk') (it := It) (fun b o hb e => hk' b o (by simpa using hb) e) nI i1 i3 i4 i5
  have gS' := hk' S _ (by simpa using hSI) gS
  obtain ⟨oI', hoI', hoc, hod⟩ := id hst'.1
  have J : Inv X (pins ++ [(S, seqObj "list" #[] 0), (It, oI')]) σ H { s with heap := h', toks := tk' } := I1.pins_of fun p hp => by
    rcases List.mem_append.mp hp with hp | hp
    · exact I1.pin p (List.mem_append_right _ hp)
    · rcases List.mem_cons.mp hp with rfl | hp
      · exact ⟨gS', nS, s1, s2, fun v z => nomatch z⟩
      · rw [List.mem_singleton.mp hp]
        exact ⟨hoI', nI, i1, i2, fun v z => by rw [show (It, oI').2.data = oI'.data from rfl, hod] at z; cases z⟩
  show wpAny _ X.A.in1 (tryCatch (holding [v'] (call (.ref f) [v'])) _ >>= _) _ _ _
  refine wpAny_bind (wpAny_tryCatch (wpAny_holding (wpAny_mono (turn 0 x v' _ H _ hx rel J (.refl H)) (fun y s2 he => ?_) fun _ _ hF => hF.elim)))
  obtain ⟨yv, H2, J2, ry, rfl, sm2⟩ := he
  obtain ⟨t2, rfl⟩ := ry
  have pS := J2.pin (S, seqObj "list" #[] 0) (List.mem_append_right _ (List.mem_append_right _ (.head _)))
  have pI := J2.pin (It, oI') (List.mem_append_right _ (List.mem_append_right _ (.tail _ (.head _))))
  have J3 : Inv X pins σ H2 s2 := J2.pins_of fun p hp => J2.pin p (List.mem_append_right _ (List.mem_append_left _ hp))
  obtain ⟨c2, hc2⟩ : ∃ c2, (s2.heap.update S (Obj.mapSeq fun _ => #[v', .int (kf 0) t2])).get? S = some (seqObj "list" #[v', .int (kf 0) t2] c2) := ⟨_, get?_update_seq pS.1 fun _ => #[v', .int (kf 0) t2]⟩
  show wpAny _ X.A.in1 (updateSeq S (fun _ => #[v', .int (kf 0) t2]) >>= _) _ _ _
  refine wpAny_bind ?_
  refine wpAny_updateSeq pS.1 rfl ?_
  rw [hname]
  have I4 := J3.turned (h' := s2.heap.update S (Obj.mapSeq fun _ => #[v', .int (kf 0) t2])) (t' := s2.toks) (it := S) (fun b o hb e => (Heap.get?_update_ne _ _ _ _ hb).trans e) pS.2.1 s1 s3 s4 s5
  refine wpAny_pure ⟨plainId_quiet PySem.F.plain_max_loop _, max_loopI kf hh hS hSI htI fS fI turn (fun i x u H1 s' h1 h2 h3 h4 h5 => hQ i x u H1 s' h1 h2 h3 h4 h5) _ 0 0 H2 _ x v' t2 c2 rfl hne I4 sm2 pS.2.1 pI.2.1 hc2 ⟨oI', (Heap.get?_update_ne _ _ _ _ hSI.symm).trans pI.1, hoc, hod⟩ hx rel (Nat.le_refl _) fun j' hj' => ?_⟩
  have e : j' = 0 := by omega
  subst e
  exact ⟨by omega, fun h => absurd h (Nat.lt_irrefl _)⟩
end
end Cl

set_option maxHeartbeats 0
namespace Cl
open PySem PySem.Spec PyProof.Rows L2
/-- what stands but for the table at P -/
def hp (P : Addr) (H : Hp) : Hp := fun b => if b = P then none else H b
theorem hp_at {P b : Addr} {H : Hp} {o : HO} (h : hp P H b = some o) : b ≠ P ∧ H b = some o := by
  unfold hp at h
  split at h
  · cases h
  · exact ⟨by assumption, h⟩
theorem hp_of {P b : Addr} {H : Hp} {o : HO} (n : b ≠ P) (h : H b = some o) : hp P H b = some o := by
  unfold hp
  rw [if_neg n]
  exact h
theorem SameX.to {P : Addr} {H H' : Hp} (s : SameX P H H') : Same (hp P H) H' := fun b o e => s b o (hp_at e).1 (hp_at e).2
theorem SameX.refl {P : Addr} (H : Hp) : SameX P H H := fun _ _ _ e => .of e
section
variable {K : PySem.W.Frag} {H H' : Hp} {P : Addr} {q : Str}
theorem dnT {a : Addr} {xs : List V} (t : LT H P q) (h : SqT K H a xs) : SqT K (hp P H) a xs := by
  obtain ⟨cs, e, _⟩ := t
  have ne : ∀ u, H a = some u → (∀ φ, u ≠ .ext φ) → a ≠ P := fun u z n y => by
    rw [y, e] at z
    exact n _ (Option.some.inj z).symm
  rcases h with (h | ⟨o, h⟩) | h
  · exact .inl (.inl (hp_of (ne _ h fun φ z => nomatch z) h))
  · exact .inl (.inr ⟨o, hp_of (ne _ h fun φ z => nomatch z) h⟩)
  · exact .inr h
theorem dn2 {v : V} {p : Int × Int} (t : LT H P q) (h : At2 K H v p) : At2 K (hp P H) v p := by
  obtain ⟨a, rfl, h⟩ := h
  exact ⟨a, rfl, dnT t h⟩
theorem dnL {v : V} {l : Ln} (t : LT H P q) (h : AtL K H v l) : AtL K (hp P H) v l := by
  obtain ⟨a, u, w, rfl, h1, h2, h3⟩ := h
  exact ⟨a, u, w, rfl, dnT t h1, dn2 t h2, dn2 t h3⟩
theorem AtL.sameX {v : V} {l : Ln} (h : AtL K H v l) (t : LT H P q) (s : SameX P H H') : AtL K H' v l := (dnL t h).same s.to
theorem seX {a : Addr} {xs : List V} (t : LT H P q) (s : SameX P H H') (h : SqT K H a xs) : SqT K H' a xs := seT s.to (dnT t h)
end
def tLamK (X : Cx) (P : Addr) (params : Arguments) (body : Expr) (scope : Scope) : TE := fun _ H Q => LT H P (X.env.qual ++ "<lambda>") ∧ ∀ f c' H1, SameX P H H1 → LT H1 P (X.env.qual ++ "<lambda>") →
  H1 f = some (LamO X params body scope c' f) → H1 c' = some (LamX.CodeO c' (X.env.qual ++ "<lambda>")) → Q (.ref f) H1
/-- what max by key asks behind its argument v -/
def keyQ (X : Cx) (P : Addr) (t : TE) (σ : L2.St) (Q : VK) (v : V) (H1 : Hp) : Prop := ∃ (tt : Addr) (vs : List V) (kf : Nat → Int), v = .ref tt ∧ SqT X.K H1 tt vs ∧ 0 < vs.length ∧ LT H1 P (X.env.qual ++ "<lambda>") ∧
  (∀ i x H2, vs[i]? = some x → SameX P H1 H2 → LT H2 P (X.env.qual ++ "<lambda>") → t (some x :: σ) H2 (fun y H3 => y = .int (kf i) ∧ Same H2 H3)) ∧
  ∀ i x H2, vs[i]? = some x → (∀ j, j < vs.length → kf i ≥ kf j ∧ (j < i → kf i > kf j)) → SameX P H1 H2 → LT H2 P (X.env.qual ++ "<lambda>") → Q x H2
def keyQs (X : Cx) (P : Addr) (t : TE) (σ : L2.St) (Q : VK) : List V → Hp → Prop
  | [v], H1 => keyQ X P t σ Q v H1
  | _, _ => False
def tMaxKey (X : Cx) (P : Addr) (t te : TE) : TE := fun σ H Q => te σ H (keyQ X P t σ Q)
section
variable {X : Cx}
theorem pe_lamK {c P : Addr} {params : Arguments} {body : Expr} {scope : Scope} {a : Str} {pos : Pos} (TB : GxR.TabB X.base X.mg c P) (hcode : X.env.code = .ref c) (L : LamK X.env.scope scope a) (hdef : defaultsOf params X.env = ([], [])) :
    PE X (.Lambda params body scope pos) (tLamK X P params body scope) :=
  ⟨fun pins s σ H Q I h => lam_make3 I TB hcode h.1 hdef (L.has I.ok) fun f c' H1 s' I1 sx lt hf hc => ⟨.ref f, H1, I1, rfl, h.2 f c' H1 sx lt hf hc⟩⟩
theorem pe_maxKey {k : Nat} {c P : Addr} {e : Expr} {params : Arguments} {body : Expr} {scope : Scope} {a : Str} {p pos lp kp : Pos} {t te : TE} (hr : RG (k + 2) X.A) (hg : Gl X "max") (hm : X.mg "max" = none) (TB : GxR.TabB X.base X.mg c P) (hcode : X.env.code = .ref c)
    (L : LamK X.env.scope scope a) (ha : a ∉ X.N) (hdef : defaultsOf params X.env = ([], []))
    (hbind : ∀ (q : Str) (cl : List (Str × Addr)) (pm cv ctv u : Value), bindArgs (PySem.W.kla_fn "<lambda>" q params body scope cl pm cv ctv) ⟨[u], []⟩ = pure [(a, u)])
    (he : PE X e te) (hbody : ∀ (A : Around) (outer : List Env) (s : Shared) (H : Hp) (f c' : Addr), RG k (A.deeper (LamX.lamEnv X scope s.heap.objs.size f c')) → PE (lamCx1 X a A outer s H scope f c') body t)
    (hs1 : starEach [e] X.env = (false, eval e X.env) :: starEach [] X.env := by rfl) :
    PE X (.Call (.Name "max" p) [e] [⟨some "key", .Lambda params body scope lp, kp⟩] pos) (tMaxKey X P t te) := by
  refine ⟨fun pins s σ H Q I h => ?_⟩
  refine wpAny_Call_Name_kw (ld_blt I hg hm PyProof.Rows.boot_max ?_ (by decide) (by decide))
  have hargs : PA X [e] _ := pa_cons he pa_nil (hs := hs1)
  have hk : PK X [⟨some "key", .Lambda params body scope lp, kp⟩] _ := pk_cons (pe_lamK (P := P) TB hcode L hdef) pk_nil
  refine PyProof.Rows.callWith_kw (thn (hargs.run pos pins s σ H (keyQs X P t σ Q) I h) fun us s1 ⟨vs0, H1, I1, r1, q1⟩ => ?_) (by rw [hs1]; rfl) (by rw [hs1]; rfl) (by rfl) (by rfl)
  obtain ⟨v, rfl⟩ : ∃ v, vs0 = [v] := by
    match vs0, q1 with
    | [v], _ => exact ⟨v, rfl⟩
    | [], q => exact False.elim q
    | _ :: _ :: _, q => exact False.elim q
  obtain ⟨tt, vs, kf, rfl, hS, hne, lt1, ht, hq⟩ := q1
  obtain ⟨u, rfl, ru⟩ := vals1 r1
  cases ru
  refine thn (hk.run pos pins s1 σ H1 (fun ws H2 => ∃ f c', ws = [.ref f] ∧ SameX P H1 H2 ∧ LT H2 P (X.env.qual ++ "<lambda>") ∧ H2 f = some (LamO X params body scope c' f) ∧ H2 c' = some (LamX.CodeO c' (X.env.qual ++ "<lambda>"))) I1 ?_) fun ws s2 ⟨zs, H2, I2, r2, q2⟩ => ?_
  · exact ⟨lt1, fun f c' H2 sx lt hf hc => ⟨f, c', rfl, sx, lt, hf, hc⟩⟩
  obtain ⟨f, c', rfl, sx, lt2, hf, hc⟩ := q2
  obtain ⟨u, rfl, ru⟩ := vals1 r2
  cases ru
  have hS2 := seX lt1 sx hS
  show wpAny _ _ (call (.builtin "max") [.ref tt] [(Str.ofString "key", .ref f)]) _ _ s2
  refine max_keyI kf hr.room.hd I2 hS2 hne (fun i x u pins' H3 s3 hx rel I3 sm => ?_) fun i x u H3 s3 hx rel best I3 sm => ?_
  · refine wpAny_mono (call_key (k := k) I3 L ha (sm _ _ hf) (sm _ _ hc) hbind hr (fun A outer s H hr' => hbody A outer s H f c' hr') rel (ht i x H3 hx (sx.trans sm.x) (sm.lt lt2))) (fun y s4 hy => ?_) fun _ _ z => z
    obtain ⟨yv, H4, I4, ry, e, sm4⟩ := hy
    exact ⟨yv, H4, I4, ry, e, sm.trans sm4⟩
  · exact ⟨x, H3, I3, rel, hq i x H3 hx best (sx.trans sm.x) (sm.lt lt2)⟩
end
end Cl

set_option maxHeartbeats 0
namespace Cl
open PySem PySem.Spec PyProof.Rows L2
/-! ### a generator expression over one name, its element asked as it comes: told by words on states -/
theorem over_comp {A : Around} {e : Expr} {gs : List Comprehension} {sc : Scope} {p : Pos} {v o : Value} {env : Env} : A.over (.compLoop (.GeneratorExp e gs sc p) 0 v o env) [] = A.deeper env := by
  first
    | rfl
    | (obtain ⟨hd, d, fr, gs, u⟩ := A; simp [Around.over, Around.deeper, marksOver, frameCount, unitsOf, envsOf, guardsOf, pushEnvs, pushGuards, Code.envs, Code.env?, Code.isFrame, Code.guards, Code.isGuard, Code.weight, Code.frames, Code.isCreation, Code.isCaller, Code.cUnits])
theorem over_start {A : Around} {e : Expr} {gs : List Comprehension} {sc : Scope} {p : Pos} {v o : Value} {env : Env} : A.over (.compStart (.GeneratorExp e gs sc p) 0 v o env) [] = A.deeper env := by
  first
    | rfl
    | (obtain ⟨hd, d, fr, gs, u⟩ := A; simp [Around.over, Around.deeper, marksOver, frameCount, unitsOf, envsOf, guardsOf, pushEnvs, pushGuards, Code.envs, Code.env?, Code.isFrame, Code.guards, Code.isGuard, Code.weight, Code.frames, Code.isCreation, Code.isCaller, Code.cUnits])
structure GenN (prog : Program) (w : World) (A : Around) (cenv : Env) (I : Addr) (x : Str) (px : Pos) (elt : Expr) (n₀ : Nat) (bs : Nat → Bool) (ST : Nat → Shared → Prop) (M1 : Nat → Value → Shared → Prop) (M2 : Nat → Shared → Prop) (FIN : Shared → Prop) : Prop where
  item : ∀ (i : Nat) (s : Shared) (Q : Option Value → Shared → Prop) (E : Value → Shared → Prop), i < n₀ → ST i s → (∀ v s', M1 i v s' → Q (some v) s') → wpAny (model prog w) (A.deeper cenv) (pyNext (.ref I)) Q E s
  asg : ∀ (i : Nat) (v : Value) (s : Shared) (Q : Unit → Shared → Prop) (E : Value → Shared → Prop), M1 i v s → (∀ s', M2 i s' → Q () s') → wpAny (model prog w) (A.deeper cenv) (assign (.Name x px) cenv v) Q E s
  el : ∀ (i : Nat) (s : Shared) (Q : Value → Shared → Prop) (E : Value → Shared → Prop), M2 i s → (∀ s', ST (i + 1) s' → Q (.bool (bs i)) s') → wpAny (model prog w) (A.deeper cenv) (eval elt cenv) Q E s
  done : ∀ (s : Shared) (Q : Option Value → Shared → Prop) (E : Value → Shared → Prop), ST n₀ s → (∀ s', FIN s' → Q none s') → wpAny (model prog w) (A.deeper cenv) (pyNext (.ref I)) Q E s
  self : ∀ (s : Shared) (Q : Value → Shared → Prop) (E : Value → Shared → Prop), ST 0 s → Q (.ref I) s → wpAny (model prog w) (A.deeper cenv) (pyIter (.ref I)) Q E s
def protoN (n₀ : Nat) (bs : Nat → Bool) (ST : Nat → Shared → Prop) : Protocol := fun m _ v s kap =>
  ∃ i, i + m + 1 = n₀ ∧ v = .bool (bs i) ∧ ST (i + 1) s ∧ ∀ s'' : Shared, ST (i + 1) s'' → kap (.send .none) s''
abbrev endN (FIN : Shared → Prop) : GenEnd := fun n _ r s₁ => r = .ok .next ∧ (n = 0 ∧ FIN s₁)
section
variable {prog : Program} {w : World} {A : Around} {cenv : Env} {I : Addr} {x : Str} {px : Pos} {elt iter : Expr} {n₀ : Nat} {bs : Nat → Bool} {ST : Nat → Shared → Prop} {M1 : Nat → Value → Shared → Prop} {M2 : Nat → Shared → Prop} {FIN : Shared → Prop} {scope : Scope} {pos : Pos}
theorem seg_loopN (hco : cenv.scope.isCoroutine = false) (G : GenN prog w A cenv I x px elt n₀ bs ST M1 M2 FIN) :
    ∀ (k i : Nat) (s₀ s : Shared), n₀ - i = k → i ≤ n₀ → ST i s →
      Seg (model prog w) A (endN FIN) (protoN n₀ bs ST) k s₀
        (.compLoop (.GeneratorExp elt [⟨.Name x px, iter, [], 0⟩] scope pos) 0 (.ref I) .none cenv)
        ((model prog w).den (.compLoop (.GeneratorExp elt [⟨.Name x px, iter, [], 0⟩] scope pos) 0 (.ref I) .none cenv)) [] s := by
  intro k
  induction k with
  | zero =>
    intro i s₀ s hk hi hst
    have hin : i = n₀ := by omega
    subst hin
    show Seg _ A _ _ _ s₀ _ ((compTurn (.GeneratorExp elt [⟨.Name x px, iter, [], 0⟩] scope pos) 0 (.ref I) .none cenv).onRaise (leaving cenv)) [] s
    rw [compTurn_gen, Sem.onRaise_eq_wrap]
    refine seg_bind_wrap (wpAny_standAt ?_)
    refine seg_bind_wrap ?_
    rw [over_comp]
    refine G.done s _ _ hst fun s' hf => ?_
    exact seg_end (.ok .next) ⟨rfl, rfl, hf⟩
  | succ k ih =>
    intro i s₀ s hk hi hst
    have hlt : i < n₀ := by omega
    show Seg _ A _ _ _ s₀ _ ((compTurn (.GeneratorExp elt [⟨.Name x px, iter, [], 0⟩] scope pos) 0 (.ref I) .none cenv).onRaise (leaving cenv)) [] s
    rw [compTurn_gen, Sem.onRaise_eq_wrap]
    refine seg_bind_wrap (wpAny_standAt ?_)
    refine seg_bind_wrap ?_
    rw [over_comp]
    refine G.item i s _ _ hlt hst fun v s1 h1 => ?_
    refine seg_bind_wrap (wpAny_of_eq (rfl : letOwnedTupleGo (.Name x px) (.ref I) v = pure ()) ?_)
    refine seg_bind_wrap ?_
    rw [over_comp]
    refine G.asg i v s1 _ _ h1 fun s2 h2 => ?_
    refine seg_bind_wrap ?_
    simp only [List.forIn_nil]
    refine wpAny_pure ?_
    simp only [if_true]
    have hy : ∀ v, yieldOut cenv v = yieldValue v := fun v => by simp only [yieldOut, hco, Bool.false_eq_true, if_false]
    simp only [hy]
    rw [Sem.bind_eq_wrap', Sem.bind_eq_wrap', Sem.wrap_wrap, Sem.wrap_wrap]
    refine seg_wrap ?_
    rw [over_comp]
    refine G.el i s2 _ _ h2 fun s3 h3 => ?_
    refine seg_at (seg_yield rfl rfl rfl ⟨i, by omega, rfl, h3, fun s'' hal => ?_⟩)
    exact seg_again rfl (ih (i + 1) s'' s'' (by omega) hlt hal)
theorem seg_startN (hco : cenv.scope.isCoroutine = false) (G : GenN prog w A cenv I x px elt n₀ bs ST M1 M2 FIN) (s₀ s : Shared) (hst : ST 0 s) :
    Seg (model prog w) A (endN FIN) (protoN n₀ bs ST) n₀ s₀
      (.compStart (.GeneratorExp elt [⟨.Name x px, iter, [], 0⟩] scope pos) 0 (.ref I) .none cenv)
      ((model prog w).den (.compStart (.GeneratorExp elt [⟨.Name x px, iter, [], 0⟩] scope pos) 0 (.ref I) .none cenv)) [] s := by
  have loop := fun s₀ => seg_loopN (iter := iter) (scope := scope) (pos := pos) hco G n₀ 0 s₀ s (Nat.sub_zero _) (Nat.zero_le _) hst
  show Seg _ A _ _ _ s₀ _ ((compStart (.GeneratorExp elt [⟨.Name x px, iter, [], 0⟩] scope pos) 0 (.ref I) .none cenv).onRaise (leaving cenv)) [] s
  unfold compStart
  rw [Sem.onRaise_eq_wrap]
  show Seg _ A _ _ _ s₀ _ ((ask >>= _).wrap _ _ _ _) [] s
  refine seg_bind_wrap (wpAny_askSetting ?_)
  split
  · exact seg_again rfl (loop s₀)
  · refine seg_bind_wrap (wpAny_rule ?_)
    first
      | (refine seg_bind_wrap (wpAny_standAt ?_)
         refine seg_bind_wrap ?_
         rw [over_start]
         exact G.self s _ _ hst (seg_again rfl (loop s₀)))
      | (show Seg _ A _ _ _ s₀ _ ((standAt iter.pos >>= _).wrap _ _ _ _) [] s
         refine seg_bind_wrap (wpAny_standAt ?_)
         refine seg_bind_wrap ?_
         rw [over_start]
         exact G.self s _ _ hst (seg_again rfl (loop s₀)))
/-- the generator at a stands ahead of its turn i -/
structure AtN (prog : Program) (w : World) (A : Around) (a : Addr) (g n₀ : Nat) (bs : Nat → Bool) (ST : Nat → Shared → Prop) (FIN : Shared → Prop) (i : Nat) (s : Shared) : Prop where
  st : ST i s
  go : ∃ gs, s.gens[g]? = some gs ∧ ∀ s'', ST i s'' → gs.Goes (model prog w) A (endN FIN) (protoN n₀ bs ST) (n₀ - i) (.send .none) s''
/-- what a state word tells of the generator's object -/
structure SideN (a : Addr) (g : Nat) (ST : Nat → Shared → Prop) : Prop where
  gen : ∀ i s, ST i s → s.heap.IsGen a g
  lim : ∀ i s, ST i s → s.heap.NoLimit
  sz : ∀ i s, ST i s → g < s.gens.size
  set : ∀ i s y, y.bare = true → ST i s → ST i (s.setGen g y)
variable {a : Addr} {g : Nat}
theorem nextN_item {i : Nat} {s : Shared} {Q : Option Value → Shared → Prop} {E : Value → Shared → Prop} (hh : A.handled = none) (hroom : A.depth < recursionLimit) (S : SideN a g ST) (hi : i < n₀) (h : AtN prog w A.in1 a g n₀ bs ST FIN i s)
    (hQ : ∀ s', AtN prog w A.in1 a g n₀ bs ST FIN (i + 1) s' → Q (some (.bool (bs i))) s') : wpAny (model prog w) A (pyNext (.ref a)) Q E s := by
  obtain ⟨gs, hgs, hgo⟩ := h.go
  obtain ⟨m, hm⟩ : ∃ m, n₀ - i = m + 1 := ⟨n₀ - i - 1, by omega⟩
  rw [hm] at hgo
  refine wpAny_pyNext_genexpQ (P := fun n _ s₁ => n = 0 ∧ FIN s₁) hh (S.lim _ _ h.st) hroom (S.gen _ _ h.st) hgs (hgo _ (S.set _ _ _ rfl h.st)) (fun v s₁ gs' hb hv => ?_) fun s₁ hp h' hk => absurd hp.1 (Nat.succ_ne_zero m)
  obtain ⟨i', e, rfl, st1, hkap⟩ := hv
  have ei : i' = i := by omega
  subst ei
  refine hQ _ ⟨S.set _ _ _ hb st1, gs', setGen_at (S.sz _ _ st1), fun s'' hal => ?_⟩
  have e2 : n₀ - (i' + 1) = m := by omega
  rw [e2]
  exact hkap s'' hal
theorem nextN_done {s : Shared} {Q : Option Value → Shared → Prop} {E : Value → Shared → Prop} (hh : A.handled = none) (hroom : A.depth < recursionLimit) (S : SideN a g ST) (h : AtN prog w A.in1 a g n₀ bs ST FIN n₀ s)
    (hQ : ∀ s' h', FIN s' → (∀ b o, s'.heap.get? b = some o → h'.get? b = some o) → Q none { s'.setGen g .finished with heap := h' }) : wpAny (model prog w) A (pyNext (.ref a)) Q E s := by
  obtain ⟨gs, hgs, hgo⟩ := h.go
  rw [Nat.sub_self] at hgo
  refine wpAny_pyNext_genexpQ (P := fun n _ s₁ => n = 0 ∧ FIN s₁) hh (S.lim _ _ h.st) hroom (S.gen _ _ h.st) hgs (hgo _ (S.set _ _ _ rfl h.st)) (fun v s₁ gs' hb hv => ?_) fun s₁ hp h' hk => ?_
  · obtain ⟨i', e, rfl, st1, hkap⟩ := hv
    exact False.elim (hkap s₁ st1)
  · exact hQ s₁ h' hp.2 hk
end
end Cl

set_option maxHeartbeats 0
namespace Cl
open PySem PySem.Spec PyProof.Rows L2
open GxR (TabB TabG Tabbed GenS inv_tab sh_eta)
/-- a generator expression's scope: its one name, the hidden one, captured names, globals -/
structure GenK (sc scope : Scope) (x : Str) : Prop where
  kind : scope.kind = .function
  co : scope.isCoroutine = false
  nocell : ∀ y ∈ scope.names, y.2 ≠ .cell
  dot : scope.names.lookup (".0" : Str) = some .local
  own : ∀ y ∈ scope.names, y.2 = .local → y.1 = x ∨ y.1 = ".0"
  par : scope.names.lookup x = some .local
  free : ∀ y ∈ scope.names, y.2 = .free → sc.names.lookup y.1 = some .cell ∨ sc.names.lookup y.1 = some .free
def genKB (sc scope : Scope) (x : Str) : Bool :=
  decide (scope.kind = .function) && (!scope.isCoroutine && (decide (scope.names.lookup (".0" : Str) = some .local) && (decide (scope.names.lookup x = some .local) && scope.names.all fun y => !decide (y.2 = .cell) && ((!decide (y.2 = .local) || (decide (y.1 = x) || decide (y.1 = ".0"))) && (!decide (y.2 = .free) || (decide (sc.names.lookup y.1 = some .cell) || decide (sc.names.lookup y.1 = some .free)))))))
theorem genK_by {sc scope : Scope} {x : Str} (h : genKB sc scope x = true) : GenK sc scope x := by
  unfold genKB at h
  simp only [Bool.and_eq_true, Bool.or_eq_true, Bool.not_eq_true', decide_eq_true_eq, decide_eq_false_iff_not, List.all_eq_true] at h
  obtain ⟨h1, h2, h3, h4, h5⟩ := h
  refine ⟨h1, h2, fun y hy => (h5 y hy).1, h3, fun y hy e => ?_, h4, fun y hy e => ?_⟩
  · rcases (h5 y hy).2.1 with z | z
    · exact absurd e z
    · exact z
  · rcases (h5 y hy).2.2 with z | z
    · exact absurd e z
    · exact z
theorem GenK.has {X : Cx} {scope : Scope} {x : Str} (L : GenK X.env.scope scope x) (ok : X.Ok) : ∀ y ∈ scope.names, y.2 = .free → ∃ c, X.env.cells.lookup y.1 = some c := fun y hy e => by
  rcases L.free y hy e with k | k
  · exact ok.has _ (.inl k)
  · exact ok.has _ (.inr k)
/-- the context of the generator expression's element -/
def genCx (X : Cx) (x : Str) (A : Around) (s1 : Shared) (H1 : Hp) (env : Env) : Cx where
  prog := X.prog
  w := X.w
  K := X.K
  mg := X.mg
  base := X.base
  A := A.deeper env
  N := x :: X.N
  s_0 := s1
  H_0 := H1
  env := env
  outer := X.stack
  stack := env :: X.stack
  ex := []
  fn := fun _ => false
  calm := true
  pn := []
  xe := fun _ _ => False
abbrev gEnv (X : Cx) (scope : Scope) (C : Addr) (code : Value) : Env := genEnv scope (cloFrom X.env.cells scope.names []) C code builtinsNs X.env
section
variable {X : Cx} {pins : List (Addr × Obj)} {σ : L2.St}
theorem gen_start {x : Str} {A : Around} {s1 s4 : Shared} {H1 H4 : Hp} {scope : Scope} {C P : Addr} {code : Value} {pn : List (Addr × Obj)} {m : Str → Option Value} (I : Inv X pins σ H1 s1) (L : GenK X.env.scope scope x) (hf : A.frames = some X.stack) (hd : A.handled = none) (hx : x ∉ X.N) (hdot : (".0" : Str) ∉ X.N)
    (hC : s1.heap.objs.size ≤ C) (hP : ∃ ps, H1 P = some (.tbl ps)) (kp : ∀ b o, b ≠ P → s1.heap.get? b = some o → s4.heap.get? b = some o) (un : Un (frs X.stack) [] H1 H4 s1.heap s4.heap) (hok : HOk X.prog X.w H4 s4.heap) (bare : AllBare s4.gens) (hos : s4.os = s1.os)
    (hns : s4.heap.Ns C m) (hCn : H4 C = none) (hpn : ∀ p ∈ pn, s4.heap.get? p.1 = some p.2 ∧ H4 p.1 = none ∧ p.1 ≠ C ∧ p.1 ∉ frs X.stack ∧ ∀ v, p.2.data ≠ .cell v) :
    Inv (genCx X x A s1 H1 (gEnv X scope C code)) pn (none :: σ) H4 s4 := by
  have hfree := L.has I.ok
  have e0 := I.env0
  obtain ⟨ps, hP⟩ := hP
  have cm : ∀ {y c}, (cloFrom X.env.cells scope.names []).lookup y = some c → X.env.cells.lookup y = some c := fun {y c} e => by
    rcases cloFrom_mem (PySem.mem_of_lookup e) with hm | ⟨h1, h2⟩
    · cases hm
    · obtain ⟨c1, hc⟩ := hfree _ h1 rfl
      have hc : X.env.cells.lookup y = some c1 := hc
      have e2 : c = c1 := by
        rw [h2, hc] <;> rfl
      rw [e2]
      exact hc
  have look : ∀ {y}, scope.names.lookup y = some .free → ∃ c, (cloFrom X.env.cells scope.names []).lookup y = some c := fun {y} hl => by
    have hy : (y, NameKind.free) ∈ scope.names := PySem.mem_of_lookup hl
    exact mem_lookup (cloFrom_has (cells := X.env.cells) (acc := []) hy)
  have nP : ∀ b, H1 b = none → b ≠ P := fun b n z => by rw [z, hP] at n; cases n
  have cellK : ∀ {c : Addr} {v : Option Value}, H1 c = none → s1.heap.IsCell c v → s4.heap.IsCell c v := fun {c v} n ⟨o, ho, hd⟩ => ⟨_, kp _ _ (nP _ n) ho, hd⟩
  have noA : ∀ b : Addr, b ∉ (genCx X x A s1 H1 (gEnv X scope C code)).ex := fun b z => absurd (show b ∈ ([] : List Addr) from z) (by simp)
  refine ⟨⟨e0.mod, L.kind, I.ok.glob, rfl, hC, fun y z c e1 e2 => I.ok.inj y z c (cm e1) (cm e2), fun y hy => ?_, fun y c z _ => ?_, fun _ => hd, Around.frames_deeper hf, .inr ⟨rfl, rfl⟩, fun b z => absurd z (noA b), e0.bs, e0.bsz, fun b _ _ => noA b,
      fun b z => absurd z (noA b), e0.funs, e0.frf⟩,
    hos, bare, un, ⟨_, hns, fun i y v' e1 e2 e3 => ?_⟩, fun y c e => ?_, hCn, fun y c e => ?_, fun q hq => ?_, hok, ?_⟩
  · have hy : scope.names.lookup y = some .cell ∨ scope.names.lookup y = some .free := hy
    rcases hy with hy | hy
    · exact absurd rfl (L.nocell _ (PySem.mem_of_lookup hy))
    · exact look hy
  · have z : false = true := z
    cases z
  · have e3 : Vis scope y := e3
    cases i with
    | zero =>
      have e2 : some (none : Option V) = some (some v') := e2
      cases e2
    | succ i =>
      have e1 : X.N[i]? = some y := e1
      have e2 : σ[i]? = some (some v') := e2
      have hyN := List.mem_of_getElem? e1
      rcases e3 with k | k | k
      · rcases L.own _ (PySem.mem_of_lookup k) rfl with z | z
        · exact absurd (by rw [← show y = x from z]; exact hyN) hx
        · exact absurd (by rw [← show y = ".0" from z]; exact hyN) hdot
      · exact absurd rfl (L.nocell _ (PySem.mem_of_lookup k))
      · obtain ⟨m, hn, hl⟩ := I.loc
        have hvis : Vis X.env.scope y := (L.free _ (PySem.mem_of_lookup k) rfl).elim (fun k => .inr (.inl k)) (fun k => .inr (.inr k))
        obtain ⟨w', r, q⟩ := hl i y v' e1 e2 hvis
        obtain ⟨c2, h2⟩ := look k
        refine ⟨w', r, .inr ⟨.inr k, c2, h2, ?_⟩⟩
        have c1 := cm h2
        rcases q with ⟨k', _⟩ | ⟨_, c3, e', z⟩
        · have k' : X.env.scope.names.lookup y = some .local := k'
          rcases L.free _ (PySem.mem_of_lookup k) rfl with k2 | k2 <;> rw [show X.env.scope.names.lookup y = _ from k2] at k' <;> cases k'
        · rw [c1] at e'
          cases e'
          exact cellK (I.freeC y _ c1) z
  · obtain ⟨w', z⟩ := I.cell y c (cm e)
    exact ⟨w', cellK (I.freeC y c (cm e)) z⟩
  · have n1 := I.freeC y c (cm e)
    obtain ⟨w', z⟩ := I.cell y c (cm e)
    obtain ⟨o, ho, _⟩ := z
    exact un.free c o ho n1 (by simp)
  · have hq : q ∈ pn := hq
    exact hpn q hq
  · show (none :: σ).length = (x :: X.N).length
    rw [List.length_cons, List.length_cons, I.len]
end
end Cl

set_option maxHeartbeats 0
namespace Cl
open PySem PySem.Spec PyProof.Rows L2
open GxR (TabB TabG Tabbed GenS inv_tab sh_eta)
theorem Inv.setGen {X : Cx} {pins : List (Addr × Obj)} {σ : L2.St} {H : Hp} {s : Shared} {g : Nat} {y : GenState} (I : Inv X pins σ H s) (hy : y.bare = true) : Inv X pins σ H (s.setGen g y) :=
  ⟨I.ok, I.os, allBare_setGen I.bare hy, I.base, I.loc, I.cell, I.free, I.freeC, I.pin, I.hok, I.len⟩
/-! ### the states of such a generator -/
def IterO (t : Addr) (i : Nat) (o : Obj) : Prop := o.cls = .type "tuple_iterator" ∧ o.data = .fields #[.ref t, .int (i : Nat) 0]
def GenO (g : Nat) (o : Obj) : Prop := ∃ nm qn, o.cls = .type "generator" ∧ o.data = .fields #[.int (g : Nat) 0, nm, qn] ∧ o.slots = #[]
structure GW (G : Cx) (x : Str) (I a t : Addr) (g : Nat) (xs : List V) (bs : Nat → Bool) (Pv : Nat → Hp → Prop) (tel : TE) (σ : L2.St) : Prop where
  calm : G.calm = true
  nd : G.N.Nodup
  nx : G.N[0]? = some x
  loc : G.env.scope.names.lookup x = some .local
  pn : G.pn = []
  xe : ∀ u s, ¬ G.xe u s
  tup : ∀ i H, Pv i H → SqT G.K H t xs
  I1 : G.s_0.heap.objs.size ≤ I
  I2 : I ≠ G.env.locals
  I3 : ∀ y c, G.env.cells.lookup y = some c → c ≠ I
  I4 : I ∉ G.fs
  I5 : I ≠ a
  el : ∀ i v H, xs[i]? = some v → Pv i H → tel (some v :: σ) H fun y H' => y = .bl (bs i) ∧ Pv (i + 1) H'
section
variable {G : Cx} {x : Str} {I a t : Addr} {g : Nat} {xs : List V} {bs : Nat → Bool} {Pv : Nat → Hp → Prop} {tel : TE} {σ : L2.St}
def gST (G : Cx) (I a t : Addr) (g : Nat) (Pv : Nat → Hp → Prop) (σ : L2.St) (i : Nat) (s : Shared) : Prop :=
  ∃ (H : Hp) (v : Option V) (oI oA : Obj), Inv G [(I, oI), (a, oA)] (v :: σ) H s ∧ Pv i H ∧ IterO t i oI ∧ GenO g oA ∧ g < s.gens.size
def gM1 (G : Cx) (I a t : Addr) (g : Nat) (xs : List V) (Pv : Nat → Hp → Prop) (σ : L2.St) (i : Nat) (u : Value) (s : Shared) : Prop :=
  ∃ (H : Hp) (v : Option V) (w : V) (oI oA : Obj), Inv G [(I, oI), (a, oA)] (v :: σ) H s ∧ Pv i H ∧ xs[i]? = some w ∧ RelV w u ∧ IterO t (i + 1) oI ∧ GenO g oA ∧ g < s.gens.size
def gM2 (G : Cx) (I a t : Addr) (g : Nat) (xs : List V) (Pv : Nat → Hp → Prop) (σ : L2.St) (i : Nat) (s : Shared) : Prop :=
  ∃ (H : Hp) (w : V) (oI oA : Obj), Inv G [(I, oI), (a, oA)] (some w :: σ) H s ∧ Pv i H ∧ xs[i]? = some w ∧ IterO t (i + 1) oI ∧ GenO g oA ∧ g < s.gens.size
def gFIN (G : Cx) (Pv : Nat → Hp → Prop) (σ : L2.St) (n : Nat) (s : Shared) : Prop := ∃ (H : Hp) (v : Option V), Inv G [] (v :: σ) H s ∧ Pv n H
theorem gw_gen {elt : Expr} {px : Pos} {A : Around} (hA : G.A = A.deeper G.env) (hh : A.handled = none) (W : GW G x I a t g xs bs Pv tel σ) (helt : PE G elt tel) :
    GenN G.prog G.w A G.env I x px elt xs.length bs (gST G I a t g Pv σ) (gM1 G I a t g xs Pv σ) (gM2 G I a t g xs Pv σ) (gFIN G Pv σ xs.length) := by
  have pinI : ∀ {oI oA : Obj} {v : Option V} {H : Hp} {s : Shared}, Inv G [(I, oI), (a, oA)] (v :: σ) H s → (s.heap.get? I = some oI ∧ H I = none) ∧ (s.heap.get? a = some oA ∧ H a = none ∧ a ≠ G.env.locals ∧ a ∉ G.fs ∧ ∀ v, oA.data ≠ .cell v) := fun {oI oA v H s} J => by
    have p1 := J.pin (I, oI) (List.mem_append_right _ (by simp))
    have p2 := J.pin (a, oA) (List.mem_append_right _ (by simp))
    exact ⟨⟨p1.1, p1.2.1⟩, p2⟩
  have rest : ∀ {oI oA : Obj} {v : Option V} {H : Hp} {s : Shared}, Inv G [(I, oI), (a, oA)] (v :: σ) H s → Inv G [(a, oA)] (v :: σ) H s := fun {oI oA v H s} J => J.pins_of fun p hp => by
    rw [List.mem_singleton.mp hp]
    exact (pinI J).2
  have turn : ∀ {oI oA : Obj} {v : Option V} {H : Hp} {s : Shared} {h' : Heap} {tk : Nat}, Inv G [(I, oI), (a, oA)] (v :: σ) H s → (∀ b o, b ∉ [I] → s.heap.get? b = some o → h'.get? b = some o) → Inv G [(a, oA)] (v :: σ) H { s with heap := h', toks := tk } := fun {oI oA v H s h' tk} J k =>
    (rest J).turned (it := I) (fun b o hb e => k b o (by simpa using hb) e) (pinI J).1.2 W.I2 (.inr W.I1) W.I3 fun p hp => by
      rw [W.pn] at hp
      rw [List.mem_singleton.mp hp]
      exact fun z => W.I5 z.symm
  have walk : ∀ {oI oA : Obj} {v : Option V} {H : Hp} {s : Shared} {i : Nat}, Inv G [(I, oI), (a, oA)] (v :: σ) H s → Pv i H → IterO t i oI → ∃ its : List Value, Vals xs its ∧ its.toArray.size = xs.length ∧ Walks G.prog G.w (A.deeper G.env) I [I, t] [I] its.toArray.size (fun i v => its.toArray[i]? = some v) (fun i h => h.IsTupleIter I t i ∧ h.IsTuple t its.toArray) ∧ s.heap.IsTupleIter I t i ∧ s.heap.IsTuple t its.toArray := fun {oI oA v H s i} J p hI => by
    obtain ⟨its, rv, tup, hz⟩ := J.tuple (W.tup i H p)
    have e1 := (pinI J).1.1
    have ne : t ≠ I := fun z => by
      obtain ⟨o, e2, e3, _⟩ := id tup
      rw [z, e1] at e2
      cases e2
      rw [hI.1] at e3
      exact absurd (Value.type.inj e3) (by decide)
    exact ⟨its, rv, by rw [List.size_toArray]; exact rv.length.symm, Walks.tuple (prog := G.prog) (w := G.w) (A := A.deeper G.env) (show (A.deeper G.env).handled = none from hh) I t ne its.toArray, ⟨oI, e1, hI.1, hI.2⟩, tup⟩
  refine ⟨fun i s Q E hi st hQ => ?_, fun i v s Q E h hQ => ?_, fun i s Q E h hQ => ?_, fun s Q E st hQ => ?_, fun s Q E st hQ => ?_⟩
  · obtain ⟨H, v, oI, oA, J, p, hI, hA, hg⟩ := st
    obtain ⟨its, rv, sz, Wk, d1, d2⟩ := walk J p hI
    refine Wk.item i s Q E (by rw [sz]; exact hi) ⟨d1, d2⟩ fun u h' tk hP st' hk => hQ u _ ?_
    have hu : its[i]? = some u := by simpa using hP
    obtain ⟨w, hw⟩ : ∃ w, xs[i]? = some w := ⟨_, List.getElem?_eq_getElem hi⟩
    obtain ⟨u', ev, rel⟩ := rv.get hw
    obtain rfl : u' = u := Option.some.inj (ev.symm.trans hu)
    obtain ⟨oI', g1, g2, g3⟩ := st'.1
    have J1 : Inv G [(a, oA)] (v :: σ) H { s with heap := h', toks := tk } := turn J hk
    refine ⟨H, v, w, oI', oA, J1.pins_of fun q hq => ?_, p, hw, rel, ⟨g2, g3⟩, hA, hg⟩
    rcases List.mem_cons.mp hq with rfl | hq
    · exact ⟨g1, (pinI J).1.2, W.I2, W.I4, fun v z => by rw [g3] at z; cases z⟩
    · rw [List.mem_singleton.mp hq]
      exact J1.pin (a, oA) (List.mem_append_right _ (by simp))
  · obtain ⟨H, v0, w, oI, oA, J, p, hw, rel, hI, hA2, hg⟩ := h
    refine GenW.wpAny_gsz (n := g + 1) hg ?_
    rw [← hA]
    refine wpAny_mono ((pg_name (X := G) (i := 0) W.nd W.nx (.inl W.loc) (.inr W.loc)).run _ s _ H w v (fun σ' H' => σ' = some w :: σ ∧ H' = H) J rel ⟨rfl, rfl⟩) (fun _ s' hs hsz => ?_) fun u s' hs => absurd hs (W.xe u s')
    obtain ⟨σ', H', J', rfl, rfl⟩ := hs
    exact hQ s' ⟨_, w, oI, oA, J', p, hw, hI, hA2, hsz⟩
  · obtain ⟨H, w, oI, oA, J, p, hw, hI, hA2, hg⟩ := h
    refine GenW.wpAny_gsz (n := g + 1) hg ?_
    rw [← hA]
    refine wpAny_mono (helt.run _ s _ H _ J (W.el i w H hw p)) (fun u s' hs hsz => ?_) fun u s' hs => absurd hs (W.xe u s')
    obtain ⟨y, H', J', r, rfl, p'⟩ := hs
    obtain rfl : u = Value.bool (bs i) := r
    exact hQ s' ⟨H', _, oI, oA, J', p', hI, hA2, hsz⟩
  · obtain ⟨H, v, oI, oA, J, p, hI, hA2, hg⟩ := st
    obtain ⟨its, rv, sz, Wk, d1, d2⟩ := walk J p hI
    rw [← sz] at d1
    refine Wk.done s Q E ⟨d1, d2⟩ fun h' tk hk => hQ _ ⟨H, v, ?_, p⟩
    have J1 : Inv G [(a, oA)] (v :: σ) H { s with heap := h', toks := tk } := turn J hk
    exact J1.pins_of fun q hq => nomatch hq
  · obtain ⟨H, v, oI, oA, J, p, hI, hA2, hg⟩ := st
    obtain ⟨its, rv, sz, Wk, d1, d2⟩ := walk J p hI
    exact Wk.self 0 s Q E ⟨d1, d2⟩ hQ
theorem gw_side : SideN a g (gST G I a t g Pv σ) where
  gen := fun i s ⟨H, v, oI, oA, J, _, _, ⟨nm, qn, h1, h2, h3⟩, _⟩ => ⟨oA, nm, qn, (J.pin (a, oA) (List.mem_append_right _ (by simp))).1, h1, h2, h3⟩
  lim := fun i s ⟨H, v, oI, oA, J, _⟩ => J.nolimit
  sz := fun i s ⟨_, _, _, _, _, _, _, _, h⟩ => h
  set := fun i s y hy ⟨H, v, oI, oA, J, p, hI, hA, hg⟩ => ⟨H, v, oI, oA, Inv.setGen J hy, p, hI, hA, by rw [GenW.setGen_size]; exact hg⟩
end
/-! ### the loops of all and any over it -/
section
variable {prog : Program} {w : World} {A : Around} {a : Addr} {g n₀ : Nat} {bs : Nat → Bool} {ST : Nat → Shared → Prop} {FIN : Shared → Prop} {R : Result → Shared → Prop}
theorem all_loopN (hh : A.handled = none) (hroom : A.depth < recursionLimit) (S : SideN a g ST) : ∀ (k i : Nat) (s : Shared), n₀ - i = k → i ≤ n₀ → AtN prog w A.in1.in1 a g n₀ bs ST FIN i s → (∀ j, j < i → bs j = true) →
    (∀ i s', i < n₀ → bs i = false → ST (i + 1) s' → R (.ok (.ret (.bool false))) s') →
    (∀ s' h', (∀ j, j < n₀ → bs j = true) → FIN s' → (∀ b o, s'.heap.get? b = some o → h'.get? b = some o) → R (.ok (.ret (.bool true))) { s'.setGen g .finished with heap := h' }) →
    codeAny (model prog w) A (.builtin "all.loop" ⟨[.ref a], []⟩) R s := by
  intro k
  induction k with
  | zero =>
    intro i s hk hi h pre r1 r2
    have hin : i = n₀ := by omega
    subst hin
    refine codeAny_builtin F.entry_all_loop ?_
    rw [Around.under_plainId F.plain_all_loop _]
    show wpAny _ A.in1 (pyNext (.ref a) >>= _) _ _ s
    refine wpAny_bind (nextN_done (A := A.in1) hh hroom S h fun s' h' hf hk => ?_)
    exact wpAny_bind (wpAny_rule (wpAny_pure (r2 s' h' pre hf hk)))
  | succ k ih =>
    intro i s hk hi h pre r1 r2
    have hlt : i < n₀ := by omega
    refine codeAny_builtin F.entry_all_loop ?_
    rw [Around.under_plainId F.plain_all_loop _]
    show wpAny _ A.in1 (pyNext (.ref a) >>= _) _ _ s
    refine wpAny_bind (nextN_item (A := A.in1) hh hroom S hlt h fun s' h' => ?_)
    refine wpAny_bind (wpAny_holding (wpAny_truthy_bool ?_))
    refine wpAny_bind (wpAny_letGo ?_)
    cases hb : bs i with
    | true =>
      simp only [if_true]
      exact wpAny_pure ⟨plainId_quiet F.plain_all_loop _, ih (i + 1) _ (by omega) hlt h' (fun j hj => by
        by_cases e : j = i
        · rw [e, hb]
        · exact pre j (by omega)) r1 r2⟩
    | false =>
      simp only [Bool.false_eq_true, if_false]
      exact wpAny_bind (wpAny_rule (wpAny_pure (r1 i s' hlt hb h'.st)))
theorem any_loopN (hh : A.handled = none) (hroom : A.depth < recursionLimit) (S : SideN a g ST) : ∀ (k i : Nat) (s : Shared), n₀ - i = k → i ≤ n₀ → AtN prog w A.in1.in1 a g n₀ bs ST FIN i s → (∀ j, j < i → bs j = false) →
    (∀ i s', i < n₀ → bs i = true → ST (i + 1) s' → R (.ok (.ret (.bool true))) s') →
    (∀ s' h', (∀ j, j < n₀ → bs j = false) → FIN s' → (∀ b o, s'.heap.get? b = some o → h'.get? b = some o) → R (.ok (.ret (.bool false))) { s'.setGen g .finished with heap := h' }) →
    codeAny (model prog w) A (.builtin "any.loop" ⟨[.ref a], []⟩) R s := by
  intro k
  induction k with
  | zero =>
    intro i s hk hi h pre r1 r2
    have hin : i = n₀ := by omega
    subst hin
    refine codeAny_builtin F.entry_any_loop ?_
    rw [Around.under_plainId F.plain_any_loop _]
    show wpAny _ A.in1 (pyNext (.ref a) >>= _) _ _ s
    refine wpAny_bind (nextN_done (A := A.in1) hh hroom S h fun s' h' hf hk => ?_)
    exact wpAny_bind (wpAny_rule (wpAny_pure (r2 s' h' pre hf hk)))
  | succ k ih =>
    intro i s hk hi h pre r1 r2
    have hlt : i < n₀ := by omega
    refine codeAny_builtin F.entry_any_loop ?_
    rw [Around.under_plainId F.plain_any_loop _]
    show wpAny _ A.in1 (pyNext (.ref a) >>= _) _ _ s
    refine wpAny_bind (nextN_item (A := A.in1) hh hroom S hlt h fun s' h' => ?_)
    refine wpAny_bind (wpAny_holding (wpAny_truthy_bool ?_))
    refine wpAny_bind (wpAny_letGo ?_)
    cases hb : bs i with
    | false =>
      simp only [Bool.false_eq_true, if_false]
      exact wpAny_pure ⟨plainId_quiet F.plain_any_loop _, ih (i + 1) _ (by omega) hlt h' (fun j hj => by
        by_cases e : j = i
        · rw [e, hb]
        · exact pre j (by omega)) r1 r2⟩
    | true =>
      simp only [if_true]
      exact wpAny_bind (wpAny_rule (wpAny_pure (r1 i s' hlt hb h'.st)))
end
end Cl

set_option maxHeartbeats 0
namespace Cl
open PySem PySem.Spec PyProof.Rows L2
open GxR (TabB TabG Tabbed GenS inv_tab sh_eta)
/-- all(elt for x in t), any(..), t a tuple: by a word on the heaps ahead of each turn -/
def tAllN (K : PySem.W.Frag) (P : Addr) (stop : Bool) (te tel : TE) : TE := fun σ H Q => te σ H fun v H1 => ∃ (t : Addr) (xs : List V) (bs : Nat → Bool) (Pv : Nat → Hp → Prop), v = .ref t ∧ SqT K H1 t xs ∧ TabG H1 P ∧
  (∀ i H, Pv i H → SqT K H t xs) ∧ (∀ H2, Same H1 H2 → TabG H2 P → Pv 0 H2) ∧
  (∀ i x H2, xs[i]? = some x → Pv i H2 → tel (some x :: σ) H2 fun y H3 => y = .bl (bs i) ∧ Pv (i + 1) H3) ∧
  (∀ i H2, i < xs.length → bs i = stop → Pv (i + 1) H2 → Q (.bl stop) H2) ∧ (∀ H2, (∀ i, i < xs.length → bs i = !stop) → Pv xs.length H2 → Q (.bl (!stop)) H2)
section
variable {X : Cx}
theorem gen_core {c P : Addr} {elt iter : Expr} {x : Str} {px gpos : Pos} {scope : Scope} {tel : TE} {k : Nat} {pins : List (Addr × Obj)} {σ : L2.St} {s1 : Shared} {H1 : Hp} {t : Addr} {xs : List V} {bs : Nat → Bool} {Pv : Nat → Hp → Prop} {Q' : Value → Shared → Prop}
    (hr : RG (k + 2) X.A) (TB : TabB X.base X.mg c P) (hcode : X.env.code = .ref c) (L : GenK X.env.scope scope x) (hx : x ∉ X.N) (hdot : (".0" : Str) ∉ X.N) (hN : X.N.Nodup)
    (helt : ∀ (s1 : Shared) (H1 : Hp) (C : Addr) (code : Value), RG k (X.A.in1.in1.deeper (gEnv X scope C code)) → PE (genCx X x X.A.in1.in1 s1 H1 (gEnv X scope C code)) elt tel)
    (I1 : Inv X pins σ H1 s1) (hS : SqT X.K H1 t xs) (hT : TabG H1 P) (hpt : ∀ i H, Pv i H → SqT X.K H t xs) (hp0 : ∀ H2, Same H1 H2 → TabG H2 P → Pv 0 H2)
    (hpe : ∀ i x H2, xs[i]? = some x → Pv i H2 → tel (some x :: σ) H2 fun y H3 => y = .bl (bs i) ∧ Pv (i + 1) H3)
    (hQ : ∀ (a : Addr) (g : Nat) (s5 : Shared) (ST : Nat → Shared → Prop) (FIN : Shared → Prop), s5.heap.IsGen a g → SideN a g ST → AtN X.prog X.w X.A.in1.in1 a g xs.length bs ST FIN 0 s5 →
      (∀ i s', ST i s' → ∃ H', (Pv i H') ∧ ∀ (b : Bool) (Q : VK), Q (.bl b) H' → EP X pins σ Q (.bool b) s') →
      (∀ s' h', FIN s' → (∀ b o, s'.heap.get? b = some o → h'.get? b = some o) → ∃ H', (Pv xs.length H') ∧ ∀ (b : Bool) (Q : VK), Q (.bl b) H' → EP X pins σ Q (.bool b) { s'.setGen g .finished with heap := h' }) → Q' (.ref a) s5) :
    wpAny (model X.prog X.w) X.A (pyIter (.ref t)) (fun it s₂ => s₂.heap.NoLimit ∧
      wpAny (model X.prog X.w) X.A (genexprCode X.env gpos (X.env.qual ++ "<genexpr>") scope) (fun code s₃ => wpAny (model X.prog X.w) X.A (builtinsFor X.env.globals X.env.builtins) (fun bi s₄ =>
        ∀ h', h'.Ns s₄.heap.objs.size (fun y => if y = ".0" then some it else none) → Heap.SameBut s₄.heap.objs.size (s₄.heap.push { cls := .type "frame", data := .dict #[] }) h' →
          Q' (.ref h'.objs.size) { s₄ with
            gens := s₄.gens.push (.fresh (.compStart (.GeneratorExp elt [⟨.Name x px, iter, [], 0⟩] scope gpos) 0 it .none (genEnv scope (cloFrom X.env.cells scope.names []) s₄.heap.objs.size code bi X.env))),
            toks := s₄.toks + 1 + 1 + 1,
            heap := h'.push { cls := .type "generator", data := .fields #[.int s₄.gens.size 0, .str "<genexpr>" (s₄.toks + 1), .str (X.env.qual ++ "<genexpr>") (s₄.toks + 1 + 1)] } }) X.xe s₃) X.xe s₂) X.xe s1 := by
  obtain ⟨ps, hP, ht⟩ := id hT
  obtain ⟨its, rv, tup, hz⟩ := I1.tuple hS
  refine wpAny_pyIter_tuple tup ?_
  have hPs : s1.heap.get? P = some { cls := .none, data := .fields ps } := I1.hok P _ hP
  have hPlt : P < s1.heap.objs.size := Heap.lt_size hPs
  generalize hito : ({ cls := .type "tuple_iterator", data := .fields #[.ref t, .int 0 0] } : Obj) = ito
  have hP2 : (s1.heap.push ito).get? P = some { cls := .none, data := .fields ps } := Heap.get?_push_of_some _ hPs
  have cd : PySem.W.CodeHd (s1.heap.push ito) c P := TB.code.keeps fun b u e => Heap.get?_push_of_some _ (I1.bk b u e)
  have lim2 : (s1.heap.push ito).NoLimit := I1.nolimit.push ito
  have sz2 : (s1.heap.push ito).objs.size = s1.heap.objs.size + 1 := Heap.size_push ..
  have cont : ∀ (code : Value) (h3 : Heap) (tk : Nat) (ps' : Array Value), Heap.ExtBut P (s1.heap.push ito) h3 → (s1.heap.push ito).objs.size ≤ h3.objs.size → h3.get? P = some { cls := .none, data := .fields ps' } → (∃ more, ps' = ps ++ more) → TriplesOk ps'.toList →
      wpAny (model X.prog X.w) X.A (builtinsFor X.env.globals X.env.builtins) (fun bi s₄ =>
        ∀ h', h'.Ns s₄.heap.objs.size (fun y => if y = ".0" then some (.ref s1.heap.objs.size) else none) → Heap.SameBut s₄.heap.objs.size (s₄.heap.push { cls := .type "frame", data := .dict #[] }) h' →
          Q' (.ref h'.objs.size) { s₄ with
            gens := s₄.gens.push (.fresh (.compStart (.GeneratorExp elt [⟨.Name x px, iter, [], 0⟩] scope gpos) 0 (.ref s1.heap.objs.size) .none (genEnv scope (cloFrom X.env.cells scope.names []) s₄.heap.objs.size code bi X.env))),
            toks := s₄.toks + 1 + 1 + 1,
            heap := h'.push { cls := .type "generator", data := .fields #[.int s₄.gens.size 0, .str "<genexpr>" (s₄.toks + 1), .str (X.env.qual ++ "<genexpr>") (s₄.toks + 1 + 1)] } }) X.xe { s1 with heap := h3, toks := tk } := by
    intro code h3 tk ps' hx3 hsz hP3 hmore ht3
    obtain ⟨bm, ob, e1, e2, e3, e4, e5, e6, e7, e8⟩ := TB.bm
    have keep3 : ∀ b u, b ≠ P → s1.heap.get? b = some u → h3.get? b = some u := fun b u hb e => hx3 b u hb (Heap.get?_push_of_some _ e)
    refine wpAny_builtinsFor (m := X.mg) (by rw [I1.ok.glob]; exact ((I1.mod.glob.keeps I1.bk).push ito).extBut hx3 TB.gP) e1 e2 (keep3 _ _ e4 (I1.bk _ _ e5)) e6 e7 e8 ?_
    intro h4 hns4 hsb4
    show Q' (.ref h4.objs.size) _
    have hC4 : h4.objs.size = h3.objs.size + 1 := by rw [hsb4.1, Heap.size_push]
    obtain ⟨more, em⟩ := hmore
    subst em
    have nP : ∀ b, H1 b = none → b ≠ P := fun b n z => by rw [z, hP] at n; cases n
    have keep4 : ∀ b u, b ≠ P → s1.heap.get? b = some u → h4.get? b = some u := fun b u hb e => hsb4.extBut b u (Nat.ne_of_lt (Nat.lt_of_lt_of_le (Heap.lt_size e) (Nat.le_trans (by rw [sz2]; exact Nat.le_succ _) hsz))) (Heap.get?_push_of_some _ (keep3 b u hb e))
    have hP4 : h4.get? P = some { cls := .none, data := .fields (ps ++ more) } := hsb4.extBut P _ (Nat.ne_of_lt (Nat.lt_of_lt_of_le hPlt (Nat.le_trans (by rw [sz2]; exact Nat.le_succ _) hsz))) (Heap.get?_push_of_some _ hP3)
    have hI4 : h4.get? s1.heap.objs.size = some ito := hsb4.extBut _ _ (Nat.ne_of_lt (Nat.lt_of_lt_of_le (by rw [sz2]; exact Nat.lt_succ_self _) hsz)) (Heap.get?_push_of_some _ (hx3 _ _ (fun z => Nat.ne_of_lt hPlt z.symm) (Heap.get?_push_size _ (by rw [← hito]; rfl))))
    generalize hgo : ({ cls := .type "generator", data := .fields #[.int s1.gens.size 0, .str "<genexpr>" (tk + 1), .str (X.env.qual ++ "<genexpr>") (tk + 1 + 1)] } : Obj) = go
    have hA5 : (h4.push go).get? h4.objs.size = some go := Heap.get?_push_size _ (by rw [← hgo]; rfl)
    have keep5 : ∀ b u, b ≠ P → s1.heap.get? b = some u → (h4.push go).get? b = some u := fun b u hb e => Heap.get?_push_of_some _ (keep4 b u hb e)
    have hP5 : (h4.push go).get? P = some { cls := .none, data := .fields (ps ++ more) } := Heap.get?_push_of_some _ hP4
    have hI5 : (h4.push go).get? s1.heap.objs.size = some ito := Heap.get?_push_of_some _ hI4
    generalize hgs : (GenState.fresh (.compStart (.GeneratorExp elt [⟨.Name x px, iter, [], 0⟩] scope gpos) 0 (.ref s1.heap.objs.size) .none (gEnv X scope h3.objs.size code))) = gs
    have gb : gs.bare = true := by rw [← hgs]; rfl
    have J := inv_tab (more := more) (h' := h4.push go) (g' := s1.gens.push gs) (d' := s1.drawn) (t' := tk + 1 + 1 + 1) I1 hP keep5 hP5 (I1.bare.push gb)
    have fresh : ∀ b, s1.heap.objs.size ≤ b → b ≠ P → upd H1 P (.tbl (ps ++ more)) b = none := fun b hb n => by rw [upd_ne n]; exact I1.hok.fresh hb
    have neP : ∀ b, s1.heap.objs.size ≤ b → b ≠ P := fun b hb z => by rw [z] at hb; exact absurd hPlt (Nat.not_lt.mpr hb)
    have noStk : ∀ b, s1.heap.objs.size ≤ b → b ∉ frs X.stack := fun b hb z => by
      rcases List.mem_cons.mp (I1.stkSub b z) with e | z
      · rw [e] at hb; exact absurd I1.lt (Nat.not_lt.mpr hb)
      · exact I1.nofs hb z
    have lI : s1.heap.objs.size ≤ s1.heap.objs.size := Nat.le_refl _
    have lC : s1.heap.objs.size ≤ h3.objs.size := Nat.le_trans (by rw [sz2]; exact Nat.le_succ _) hsz
    have lC2 : s1.heap.objs.size < h3.objs.size := Nat.lt_of_lt_of_le (by rw [sz2]; exact Nat.lt_succ_self _) hsz
    have lA : s1.heap.objs.size ≤ h4.objs.size := by rw [hC4]; exact Nat.le_trans lC (Nat.le_succ _)
    have un : Un (frs X.stack) [] H1 (upd H1 P (.tbl (ps ++ more))) s1.heap (h4.push go) := by
      have at_ : ∀ b, b ≠ P → upd H1 P (.tbl (ps ++ more)) b = H1 b := fun b h => upd_ne h
      have nQ : ∀ b u, H1 b = some u → (∀ q, u ≠ .tbl q) → b ≠ P := fun b u e q z => by
        rw [z, hP] at e
        exact q _ (Option.some.inj e).symm
      refine ⟨fun b o e n _ _ => keep5 b o (nP b n) e, fun b o e n _ _ => ⟨o.slots, keep5 b o (nP b n) e⟩, fun b o _ n _ => by rw [at_ b (nP b n)]; exact n, fun b o e _ => ?_, fun b ys e => by rw [at_ b (nQ b _ e fun q z => nomatch z)]; exact e, fun b o u e => by rw [at_ b (nQ b _ e fun q z => nomatch z)]; exact e, fun b qs e => ?_⟩
      · by_cases hb : b = P
        · rw [hb]; exact ⟨_, hP5⟩
        · exact ⟨o, keep5 b o hb e⟩
      · by_cases hb : b = P
        · rw [hb, hP] at e
          cases e
          exact ⟨more, by rw [hb, upd_same]⟩
        · exact ⟨#[], by rw [at_ b hb, e]; simp⟩
    have St := gen_start (C := h3.objs.size) (P := P) (code := code) (m := fun y => if y = ".0" then some (.ref s1.heap.objs.size) else none) (A := X.A.in1.in1) (s4 := { s1 with heap := h4.push go, gens := s1.gens.push gs, drawn := s1.drawn, toks := tk + 1 + 1 + 1 }) (pn := [(s1.heap.objs.size, ito), (h4.objs.size, go)]) I1 L I1.ok.frames hr.room.hd hx hdot lC ⟨ps, hP⟩ keep5 un J.hok J.bare rfl
      (hns4.push _) (fresh _ lC (neP _ lC)) (fun p hp => by
        rcases List.mem_cons.mp hp with rfl | hp
        · exact ⟨hI5, fresh _ lI (neP _ lI), Nat.ne_of_lt lC2, noStk _ lI, fun v z => by rw [← hito] at z; cases z⟩
        · rw [List.mem_singleton.mp hp]
          exact ⟨hA5, fresh _ lA (neP _ lA), by show h4.objs.size ≠ h3.objs.size; rw [hC4]; exact Nat.succ_ne_self _, noStk _ lA, fun v z => by rw [← hgo] at z; cases z⟩)
    have tb : Tabbed P H1 (upd H1 P (.tbl (ps ++ more))) := ⟨⟨ps ++ more, upd_same, ht3⟩, fun b hb => upd_ne hb⟩
    have sm := Same.tabbed hT tb
    have celI : ∀ y c, (cloFrom X.env.cells scope.names []).lookup y = some c → c ≠ s1.heap.objs.size := fun y c e z => by
      have hfree := L.has I1.ok
      have e2 : X.env.cells.lookup y = some c := by
        rcases cloFrom_mem (PySem.mem_of_lookup e) with hm | ⟨h1, h2⟩
        · cases hm
        · obtain ⟨c1, hc⟩ := hfree _ h1 rfl
          have hc : X.env.cells.lookup y = some c1 := hc
          have e2 : c = c1 := by rw [h2, hc] <;> rfl
          rw [e2]
          exact hc
      obtain ⟨v, q⟩ := I1.cell y c e2
      have := q.lt
      rw [z] at this
      exact Nat.lt_irrefl _ this
    have hrG : RG k (X.A.in1.in1.deeper (gEnv X scope h3.objs.size code)) := ⟨⟨hr.room.hd, by have := hr.room.dp; show X.A.depth + 1 + 3 * k + 5 < _; omega, by have := hr.room.un; show X.A.units + 1 + 1 + 3 + 16 * k + 200 < _; omega⟩, hr.gd⟩
    have GWw : GW (genCx X x X.A.in1.in1 s1 H1 (gEnv X scope h3.objs.size code)) x s1.heap.objs.size h4.objs.size t s1.gens.size xs bs Pv tel σ := by
      refine ⟨rfl, List.nodup_cons.mpr ⟨hx, hN⟩, rfl, L.par, rfl, fun u s z => z, hpt, lI, Nat.ne_of_lt lC2, celI, noStk _ lI, Nat.ne_of_lt (by rw [hC4]; exact Nat.lt_succ_of_lt lC2), fun i v H hv p => hpe i v H hv p⟩
    have GG := gw_gen (px := px) (elt := elt) (A := X.A.in1.in1) (by rfl) hr.room.hd GWw (helt s1 H1 _ _ hrG)
    have eC : s1.gens.push gs = s1.gens.push gs := rfl
    have p0 : Pv 0 (upd H1 P (.tbl (ps ++ more))) := hp0 _ sm tb.1
    have st0 : gST (genCx X x X.A.in1.in1 s1 H1 (gEnv X scope h3.objs.size code)) s1.heap.objs.size h4.objs.size t s1.gens.size Pv σ 0 { s1 with heap := h4.push go, gens := s1.gens.push gs, drawn := s1.drawn, toks := tk + 1 + 1 + 1 } :=
      ⟨_, none, ito, go, St, p0, by rw [← hito]; exact ⟨rfl, rfl⟩, by rw [← hgo]; exact ⟨_, _, rfl, rfl, rfl⟩, by show s1.gens.size < (s1.gens.push gs).size; rw [Array.size_push]; exact Nat.lt_succ_self _⟩
    have side := gw_side (G := genCx X x X.A.in1.in1 s1 H1 (gEnv X scope h3.objs.size code)) (I := s1.heap.objs.size) (a := h4.objs.size) (t := t) (g := s1.gens.size) (Pv := Pv) (σ := σ)
    have back : ∀ {pn : List (Addr × Obj)} {v : Option V} {H : Hp} {s' : Shared}, Inv (genCx X x X.A.in1.in1 s1 H1 (gEnv X scope h3.objs.size code)) pn (v :: σ) H s' → ∀ (b : Bool) (Q : VK), Q (.bl b) H → EP X pins σ Q (.bool b) s' := fun {pn v H s'} J b Q q =>
      I1.after ⟨.bl b, H, J.os, J.bare, J.base, J.hok, rfl, q⟩
    have out1 : ∀ i s', gST (genCx X x X.A.in1.in1 s1 H1 (gEnv X scope h3.objs.size code)) s1.heap.objs.size h4.objs.size t s1.gens.size Pv σ i s' → ∃ H', (Pv i H') ∧ ∀ (b : Bool) (Q : VK), Q (.bl b) H' → EP X pins σ Q (.bool b) s' :=
      fun i s' ⟨H', v, oI, oA, J', p, _⟩ => ⟨H', p, fun b Q q => back J' b Q q⟩
    have out2 : ∀ s' h', gFIN (genCx X x X.A.in1.in1 s1 H1 (gEnv X scope h3.objs.size code)) Pv σ xs.length s' → (∀ b o, s'.heap.get? b = some o → h'.get? b = some o) → ∃ H', (Pv xs.length H') ∧ ∀ (b : Bool) (Q : VK), Q (.bl b) H' → EP X pins σ Q (.bool b) { s'.setGen s1.gens.size .finished with heap := h' } :=
      fun s' h' ⟨H', v, J', p⟩ k => ⟨H', p, fun b Q q => back (Inv.kept (t' := s'.toks) (Inv.setGen (g := s1.gens.size) (y := .finished) J' rfl) k) b Q q⟩
    refine hQ h4.objs.size s1.gens.size _ _ _ (side.gen 0 _ st0) side ⟨st0, gs, Array.getElem?_push_size .., fun s'' hal => ?_⟩ out1 out2
    rw [← hgs]
    exact ⟨rfl, by rw [Nat.sub_zero]; exact seg_startN (iter := iter) (scope := scope) (pos := gpos) L.co GG s'' s'' hal⟩
  refine ⟨lim2, ?_⟩
  cases hf : codeAmong gpos ps.toList with
  | none =>
    refine wpAny_genexprCodeX hcode (cd.code hP2 ht) (cd.tab hP2) hf fun c' h' tk hx hge hlt hco' _ htab' _ => ?_
    obtain ⟨o1, vs, f1, tf, fl, tg, inF, tx, tt, op, _, _, _, _, _, _, _, _, _, htr, _⟩ := hco'
    exact cont _ h' tk _ hx (Nat.le_trans hge (Nat.le_of_lt hlt)) htab'.2 ⟨_, rfl⟩ htr
  | some cv =>
    refine wpAny_genexprCode_hit hcode (cd.code hP2 ht) hf ?_
    exact cont cv (s1.heap.push ito) s1.toks ps (Heap.ExtBut.refl _ _) (Nat.le_refl _) hP2 ⟨#[], by simp⟩ ht
theorem pe_allN {c P : Addr} {elt iter : Expr} {x : Str} {px p pos gpos : Pos} {scope : Scope} {te tel : TE} {k : Nat}
    (hr : RG (k + 2) X.A) (hg : Gl X "all") (hm : X.mg "all" = none) (TB : TabB X.base X.mg c P) (hcode : X.env.code = .ref c) (L : GenK X.env.scope scope x) (hx : x ∉ X.N) (hdot : (".0" : Str) ∉ X.N) (hN : X.N.Nodup) (hi : PE X iter te)
    (helt : ∀ (s1 : Shared) (H1 : Hp) (C : Addr) (code : Value), RG k (X.A.in1.in1.deeper (gEnv X scope C code)) → PE (genCx X x X.A.in1.in1 s1 H1 (gEnv X scope C code)) elt tel)
    (hs : ∀ v, genFold iter X.env v = pure v := by intro _; rfl)
    (he : starEach [.GeneratorExp elt [⟨.Name x px, iter, [], 0⟩] scope gpos] X.env = (false, eval (.GeneratorExp elt [⟨.Name x px, iter, [], 0⟩] scope gpos) X.env) :: starEach [] X.env := by rfl) :
    PE X (.Call (.Name "all" p) [.GeneratorExp elt [⟨.Name x px, iter, [], 0⟩] scope gpos] [] pos) (tAllN X.K P false te tel) := by
  refine ⟨fun pins s σ H Q I h => ?_⟩
  refine wpAny_Call_Name_kw (ld_blt I hg hm PyProof.Rows.boot_all ?_)
  refine PyProof.Rows.callWith_builtin1 ?_ he (by rfl)
  rw [he]
  show wpAny _ _ (spliced ((false, eval (.GeneratorExp elt [⟨.Name x px, iter, [], 0⟩] scope gpos) X.env) :: backTo pos (starEach [] X.env))) _ _ s
  refine Calls.spliced_cons ?_
  refine wpAny_GeneratorExp_make L.co (closure_ok (L.has I.ok)) L.nocell L.dot L.kind (by have := hr.room.dp; omega) ?_ hs
  refine thn (hi.run pins s σ H _ I h) fun xv s1 ⟨v, H1, I1, r1, q1⟩ => ?_
  obtain ⟨t, xs, bs, Pv, rfl, hS, hT, hpt, hp0, hpe, q2, q3⟩ := q1
  cases r1
  refine gen_core (gpos := gpos) (px := px) (iter := iter) (x := x) (elt := elt) (scope := scope) (Q' := fun v s' => wpAny (model X.prog X.w) X.A (spliced (backTo pos (starEach [] X.env))) (fun vs s2 => wpAny (model X.prog X.w) X.A (call (.builtin "all") (v :: vs)) (EP X pins σ Q) X.xe s2) X.xe s') hr TB hcode L hx hdot hN helt I1 hS hT hpt hp0 hpe fun a g s5 ST FIN hgen side at_ out1 out2 => ?_
  refine Calls.spliced_nil ?_
  refine call_function_tree PySem.F.kind_all PySem.F.plain_all PySem.F.entry_all (PySem.F.args_all1 _) ?_
  unfold Builtin.«all»
  refine wpAny_bind (m := oneArg "all" _) (wpAny_pure ?_)
  refine wpAny_bind (wpAny_pyIter_gen hgen ?_)
  refine wpAny_pure ⟨plainId_quiet PySem.F.plain_all_loop _, all_loopN (A := X.A) hr.room.hd (by have := hr.room.dp; omega) side _ 0 s5 rfl (Nat.zero_le _) at_ (fun j hj => absurd hj (Nat.not_lt_zero _)) (fun i s' hi hb st => ?_) fun s' h' all hf hk => ?_⟩
  · obtain ⟨H', p, e⟩ := out1 (i + 1) s' st
    exact e false Q (q2 i H' hi hb p)
  · obtain ⟨H', p, e⟩ := out2 s' h' hf hk
    exact e true Q (q3 H' all p)
theorem pe_anyN {c P : Addr} {elt iter : Expr} {x : Str} {px p pos gpos : Pos} {scope : Scope} {te tel : TE} {k : Nat}
    (hr : RG (k + 2) X.A) (hg : Gl X "any") (hm : X.mg "any" = none) (TB : TabB X.base X.mg c P) (hcode : X.env.code = .ref c) (L : GenK X.env.scope scope x) (hx : x ∉ X.N) (hdot : (".0" : Str) ∉ X.N) (hN : X.N.Nodup) (hi : PE X iter te)
    (helt : ∀ (s1 : Shared) (H1 : Hp) (C : Addr) (code : Value), RG k (X.A.in1.in1.deeper (gEnv X scope C code)) → PE (genCx X x X.A.in1.in1 s1 H1 (gEnv X scope C code)) elt tel)
    (hs : ∀ v, genFold iter X.env v = pure v := by intro _; rfl)
    (he : starEach [.GeneratorExp elt [⟨.Name x px, iter, [], 0⟩] scope gpos] X.env = (false, eval (.GeneratorExp elt [⟨.Name x px, iter, [], 0⟩] scope gpos) X.env) :: starEach [] X.env := by rfl) :
    PE X (.Call (.Name "any" p) [.GeneratorExp elt [⟨.Name x px, iter, [], 0⟩] scope gpos] [] pos) (tAllN X.K P true te tel) := by
  refine ⟨fun pins s σ H Q I h => ?_⟩
  refine wpAny_Call_Name_kw (ld_blt I hg hm PyProof.Rows.boot_any ?_)
  refine PyProof.Rows.callWith_builtin1 ?_ he (by rfl)
  rw [he]
  show wpAny _ _ (spliced ((false, eval (.GeneratorExp elt [⟨.Name x px, iter, [], 0⟩] scope gpos) X.env) :: backTo pos (starEach [] X.env))) _ _ s
  refine Calls.spliced_cons ?_
  refine wpAny_GeneratorExp_make L.co (closure_ok (L.has I.ok)) L.nocell L.dot L.kind (by have := hr.room.dp; omega) ?_ hs
  refine thn (hi.run pins s σ H _ I h) fun xv s1 ⟨v, H1, I1, r1, q1⟩ => ?_
  obtain ⟨t, xs, bs, Pv, rfl, hS, hT, hpt, hp0, hpe, q2, q3⟩ := q1
  cases r1
  refine gen_core (gpos := gpos) (px := px) (iter := iter) (x := x) (elt := elt) (scope := scope) (Q' := fun v s' => wpAny (model X.prog X.w) X.A (spliced (backTo pos (starEach [] X.env))) (fun vs s2 => wpAny (model X.prog X.w) X.A (call (.builtin "any") (v :: vs)) (EP X pins σ Q) X.xe s2) X.xe s') hr TB hcode L hx hdot hN helt I1 hS hT hpt hp0 hpe fun a g s5 ST FIN hgen side at_ out1 out2 => ?_
  refine Calls.spliced_nil ?_
  refine call_function_tree PySem.F.kind_any PySem.F.plain_any PySem.F.entry_any (PySem.F.args_any1 _) ?_
  unfold Builtin.«any»
  refine wpAny_bind (m := oneArg "any" _) (wpAny_pure ?_)
  refine wpAny_bind (wpAny_pyIter_gen hgen ?_)
  refine wpAny_pure ⟨plainId_quiet PySem.F.plain_any_loop _, any_loopN (A := X.A) hr.room.hd (by have := hr.room.dp; omega) side _ 0 s5 rfl (Nat.zero_le _) at_ (fun j hj => absurd hj (Nat.not_lt_zero _)) (fun i s' hi hb st => ?_) fun s' h' all hf hk => ?_⟩
  · obtain ⟨H', p, e⟩ := out1 (i + 1) s' st
    exact e true Q (q2 i H' hi hb p)
  · obtain ⟨H', p, e⟩ := out2 s' h' hf hk
    exact e false Q (q3 H' all p)
end
end Cl

set_option maxHeartbeats 0
namespace Cl
open PySem PySem.Spec PyProof.Rows L2
/-! ### generator expressions over any iterator, any target -/
structure GenT (prog : Program) (w : World) (A : Around) (cenv : Env) (I : Addr) (tg : Expr) (elt : Expr) (n₀ : Nat) (bs : Nat → Bool) (ST : Nat → Shared → Prop) (M1 : Nat → Value → Shared → Prop) (M2 : Nat → Shared → Prop) (FIN : Shared → Prop) : Prop where
  item : ∀ (i : Nat) (s : Shared) (Q : Option Value → Shared → Prop) (E : Value → Shared → Prop), i < n₀ → ST i s → (∀ v s', wpAny (model prog w) (A.deeper cenv) (letOwnedTupleGo tg (.ref I) v) (fun _ s2 => M1 i v s2) (fun _ _ => False) s' → Q (some v) s') → wpAny (model prog w) (A.deeper cenv) (pyNext (.ref I)) Q E s
  asg : ∀ (i : Nat) (v : Value) (s : Shared) (Q : Unit → Shared → Prop) (E : Value → Shared → Prop), M1 i v s → (∀ s', M2 i s' → Q () s') → wpAny (model prog w) (A.deeper cenv) (assign tg cenv v) Q E s
  el : ∀ (i : Nat) (s : Shared) (Q : Value → Shared → Prop) (E : Value → Shared → Prop), M2 i s → (∀ s', ST (i + 1) s' → Q (.bool (bs i)) s') → wpAny (model prog w) (A.deeper cenv) (eval elt cenv) Q E s
  done : ∀ (s : Shared) (Q : Option Value → Shared → Prop) (E : Value → Shared → Prop), ST n₀ s → (∀ s', FIN s' → Q none s') → wpAny (model prog w) (A.deeper cenv) (pyNext (.ref I)) Q E s
  self : ∀ (s : Shared) (Q : Value → Shared → Prop) (E : Value → Shared → Prop), ST 0 s → Q (.ref I) s → wpAny (model prog w) (A.deeper cenv) (pyIter (.ref I)) Q E s
section
variable {prog : Program} {w : World} {A : Around} {cenv : Env} {I : Addr} {tg : Expr} {elt iter : Expr} {n₀ : Nat} {bs : Nat → Bool} {ST : Nat → Shared → Prop} {M1 : Nat → Value → Shared → Prop} {M2 : Nat → Shared → Prop} {FIN : Shared → Prop} {scope : Scope} {pos : Pos}
theorem seg_loopT (hco : cenv.scope.isCoroutine = false) (G : GenT prog w A cenv I tg elt n₀ bs ST M1 M2 FIN) :
    ∀ (k i : Nat) (s₀ s : Shared), n₀ - i = k → i ≤ n₀ → ST i s →
      Seg (model prog w) A (endN FIN) (protoN n₀ bs ST) k s₀
        (.compLoop (.GeneratorExp elt [⟨tg, iter, [], 0⟩] scope pos) 0 (.ref I) .none cenv)
        ((model prog w).den (.compLoop (.GeneratorExp elt [⟨tg, iter, [], 0⟩] scope pos) 0 (.ref I) .none cenv)) [] s := by
  intro k
  induction k with
  | zero =>
    intro i s₀ s hk hi hst
    have hin : i = n₀ := by omega
    subst hin
    show Seg _ A _ _ _ s₀ _ ((compTurn (.GeneratorExp elt [⟨tg, iter, [], 0⟩] scope pos) 0 (.ref I) .none cenv).onRaise (leaving cenv)) [] s
    rw [compTurn_gen, Sem.onRaise_eq_wrap]
    refine seg_bind_wrap (wpAny_standAt ?_)
    refine seg_bind_wrap ?_
    rw [over_comp]
    refine G.done s _ _ hst fun s' hf => ?_
    exact seg_end (.ok .next) ⟨rfl, rfl, hf⟩
  | succ k ih =>
    intro i s₀ s hk hi hst
    have hlt : i < n₀ := by omega
    show Seg _ A _ _ _ s₀ _ ((compTurn (.GeneratorExp elt [⟨tg, iter, [], 0⟩] scope pos) 0 (.ref I) .none cenv).onRaise (leaving cenv)) [] s
    rw [compTurn_gen, Sem.onRaise_eq_wrap]
    refine seg_bind_wrap (wpAny_standAt ?_)
    refine seg_bind_wrap ?_
    rw [over_comp]
    refine G.item i s _ _ hlt hst fun v s1 h1 => ?_
    refine seg_bind_wrap ?_
    rw [over_comp]
    refine wpAny_mono h1 (fun _ s1' h1' => ?_) (fun _ _ z => z.elim)
    refine seg_bind_wrap ?_
    rw [over_comp]
    refine G.asg i v s1' _ _ h1' fun s2 h2 => ?_
    refine seg_bind_wrap ?_
    simp only [List.forIn_nil]
    refine wpAny_pure ?_
    simp only [if_true]
    have hy : ∀ v, yieldOut cenv v = yieldValue v := fun v => by simp only [yieldOut, hco, Bool.false_eq_true, if_false]
    simp only [hy]
    rw [Sem.bind_eq_wrap', Sem.bind_eq_wrap', Sem.wrap_wrap, Sem.wrap_wrap]
    refine seg_wrap ?_
    rw [over_comp]
    refine G.el i s2 _ _ h2 fun s3 h3 => ?_
    refine seg_at (seg_yield rfl rfl rfl ⟨i, by omega, rfl, h3, fun s'' hal => ?_⟩)
    exact seg_again rfl (ih (i + 1) s'' s'' (by omega) hlt hal)
theorem seg_startT (hco : cenv.scope.isCoroutine = false) (G : GenT prog w A cenv I tg elt n₀ bs ST M1 M2 FIN) (s₀ s : Shared) (hst : ST 0 s) :
    Seg (model prog w) A (endN FIN) (protoN n₀ bs ST) n₀ s₀
      (.compStart (.GeneratorExp elt [⟨tg, iter, [], 0⟩] scope pos) 0 (.ref I) .none cenv)
      ((model prog w).den (.compStart (.GeneratorExp elt [⟨tg, iter, [], 0⟩] scope pos) 0 (.ref I) .none cenv)) [] s := by
  have loop := fun s₀ => seg_loopT (iter := iter) (scope := scope) (pos := pos) hco G n₀ 0 s₀ s (Nat.sub_zero _) (Nat.zero_le _) hst
  show Seg _ A _ _ _ s₀ _ ((compStart (.GeneratorExp elt [⟨tg, iter, [], 0⟩] scope pos) 0 (.ref I) .none cenv).onRaise (leaving cenv)) [] s
  unfold compStart
  rw [Sem.onRaise_eq_wrap]
  show Seg _ A _ _ _ s₀ _ ((ask >>= _).wrap _ _ _ _) [] s
  refine seg_bind_wrap (wpAny_askSetting ?_)
  split
  · exact seg_again rfl (loop s₀)
  · refine seg_bind_wrap (wpAny_rule ?_)
    first
      | (refine seg_bind_wrap (wpAny_standAt ?_)
         refine seg_bind_wrap ?_
         rw [over_start]
         exact G.self s _ _ hst (seg_again rfl (loop s₀)))
      | (show Seg _ A _ _ _ s₀ _ ((standAt iter.pos >>= _).wrap _ _ _ _) [] s
         refine seg_bind_wrap (wpAny_standAt ?_)
         refine seg_bind_wrap ?_
         rw [over_start]
         exact G.self s _ _ hst (seg_again rfl (loop s₀)))
end
end Cl

set_option maxHeartbeats 0
namespace Cl
open PySem PySem.Spec PyProof.Rows L2
open GxR (TabB TabG Tabbed GenS inv_tab sh_eta)
/-- a generator expression's scope with these own names -/
structure GenKL (sc scope : Scope) (xs : List Str) : Prop where
  kind : scope.kind = .function
  co : scope.isCoroutine = false
  nocell : ∀ y ∈ scope.names, y.2 ≠ .cell
  dot : scope.names.lookup (".0" : Str) = some .local
  own : ∀ y ∈ scope.names, y.2 = .local → y.1 ∈ xs ∨ y.1 = ".0"
  par : ∀ x ∈ xs, scope.names.lookup x = some .local
  free : ∀ y ∈ scope.names, y.2 = .free → sc.names.lookup y.1 = some .cell ∨ sc.names.lookup y.1 = some .free
def genKLB (sc scope : Scope) (xs : List Str) : Bool :=
  decide (scope.kind = .function) && (!scope.isCoroutine && (decide (scope.names.lookup (".0" : Str) = some .local) && ((xs.all fun x => decide (scope.names.lookup x = some .local)) && scope.names.all fun y => !decide (y.2 = .cell) && ((!decide (y.2 = .local) || (decide (y.1 ∈ xs) || decide (y.1 = ".0"))) && (!decide (y.2 = .free) || (decide (sc.names.lookup y.1 = some .cell) || decide (sc.names.lookup y.1 = some .free)))))))
theorem genKL_by {sc scope : Scope} {xs : List Str} (h : genKLB sc scope xs = true) : GenKL sc scope xs := by
  unfold genKLB at h
  simp only [Bool.and_eq_true, Bool.or_eq_true, Bool.not_eq_true', decide_eq_true_eq, decide_eq_false_iff_not, List.all_eq_true] at h
  obtain ⟨h1, h2, h3, h4, h5⟩ := h
  refine ⟨h1, h2, fun y hy => (h5 y hy).1, h3, fun y hy e => ?_, h4, fun y hy e => ?_⟩
  · rcases (h5 y hy).2.1 with z | z
    · exact absurd e z
    · exact z
  · rcases (h5 y hy).2.2 with z | z
    · exact absurd e z
    · exact z
theorem GenKL.has {X : Cx} {scope : Scope} {xs : List Str} (L : GenKL X.env.scope scope xs) (ok : X.Ok) : ∀ y ∈ scope.names, y.2 = .free → ∃ c, X.env.cells.lookup y.1 = some c := fun y hy e => by
  rcases L.free y hy e with k | k
  · exact ok.has _ (.inl k)
  · exact ok.has _ (.inr k)
/-- the context of the element -/
def genCxT (X : Cx) (xs : List Str) (A : Around) (s1 : Shared) (H1 : Hp) (env : Env) (fp : List Addr) : Cx where
  prog := X.prog
  w := X.w
  K := X.K
  mg := X.mg
  base := X.base
  A := A.deeper env
  N := xs ++ X.N
  s_0 := s1
  H_0 := H1
  env := env
  outer := X.stack
  stack := env :: X.stack
  ex := fp
  fn := fun _ => false
  calm := true
  pn := []
  xe := fun _ _ => False
section
variable {X : Cx} {pins : List (Addr × Obj)} {σ : L2.St}
theorem gen_startT {xs : List Str} {A : Around} {s1 s4 : Shared} {H1 H4 : Hp} {scope : Scope} {C P : Addr} {code : Value} {pn : List (Addr × Obj)} {m : Str → Option Value} {fp : List Addr} (I : Inv X pins σ H1 s1) (L : GenKL X.env.scope scope xs) (hf : A.frames = some X.stack) (hd : A.handled = none) (hx : ∀ x ∈ xs, x ∉ X.N) (hdot : (".0" : Str) ∉ X.N)
    (hC : s1.heap.objs.size ≤ C) (hP : ∃ ps, H1 P = some (.tbl ps)) (kp : ∀ b o, b ≠ P → s1.heap.get? b = some o → s4.heap.get? b = some o) (un : Un (frs X.stack) [] H1 H4 s1.heap s4.heap) (hok : HOk X.prog X.w H4 s4.heap) (bare : AllBare s4.gens) (hos : s4.os = s1.os)
    (hns : s4.heap.Ns C m) (hCn : H4 C = none) (hpn : ∀ p ∈ pn, s4.heap.get? p.1 = some p.2 ∧ H4 p.1 = none ∧ p.1 ≠ C ∧ p.1 ∉ frs X.stack ∧ ∀ v, p.2.data ≠ .cell v)
    (hfp : ∀ b ∈ fp, FpOk X pins H1 b) (hfC : ∀ b ∈ fp, b ≠ C) :
    Inv (genCxT X xs A s1 H1 (gEnv X scope C code) fp) pn (xs.map (fun _ => none) ++ σ) H4 s4 := by
  have hfree := L.has I.ok
  have e0 := I.env0
  obtain ⟨ps, hP⟩ := hP
  have cm : ∀ {y c}, (cloFrom X.env.cells scope.names []).lookup y = some c → X.env.cells.lookup y = some c := fun {y c} e => by
    rcases cloFrom_mem (PySem.mem_of_lookup e) with hm | ⟨h1, h2⟩
    · cases hm
    · obtain ⟨c1, hc⟩ := hfree _ h1 rfl
      have hc : X.env.cells.lookup y = some c1 := hc
      have e2 : c = c1 := by
        rw [h2, hc] <;> rfl
      rw [e2]
      exact hc
  have look : ∀ {y}, scope.names.lookup y = some .free → ∃ c, (cloFrom X.env.cells scope.names []).lookup y = some c := fun {y} hl => by
    have hy : (y, NameKind.free) ∈ scope.names := PySem.mem_of_lookup hl
    exact mem_lookup (cloFrom_has (cells := X.env.cells) (acc := []) hy)
  have nP : ∀ b, H1 b = none → b ≠ P := fun b n z => by rw [z, hP] at n; cases n
  have cellK : ∀ {c : Addr} {v : Option Value}, H1 c = none → s1.heap.IsCell c v → s4.heap.IsCell c v := fun {c v} n ⟨o, ho, hd⟩ => ⟨_, kp _ _ (nP _ n) ho, hd⟩
  have nst : ∀ b ∈ fp, b ∉ frs X.stack := fun b hb z => by
    obtain ⟨_, f1, f2, _⟩ := hfp b hb
    rcases List.mem_cons.mp (I.stkSub b z) with e | z
    · exact f1 e
    · exact f2 z
  have nbase : ∀ b o, X.base.get? b = some o → b ∉ fp := fun b o e z => by
    obtain ⟨_, _, _, f3, _⟩ := hfp b z
    rcases f3 with f | f
    · exact I.ok.noex b o e f
    · exact absurd (Nat.lt_of_lt_of_le (Heap.lt_size e) I.ok.bsz) (Nat.not_lt.mpr f)
  refine ⟨⟨e0.mod, L.kind, I.ok.glob, rfl, hC, fun y z c e1 e2 => I.ok.inj y z c (cm e1) (cm e2), fun y hy => ?_, fun y c z _ => ?_, fun _ => hd, Around.frames_deeper hf, .inr ⟨rfl, rfl⟩, fun b z => ⟨hfC b z, fun x c e => (hfp b z).2.2.2.2.1 x c (cm e)⟩, e0.bs, e0.bsz, nbase,
      nst, e0.funs, e0.frf⟩,
    hos, bare, ⟨fun b o e n h1 _ => un.keep b o e n h1 (by simp), fun b o e n h1 _ => un.slot b o e n h1 (by simp), fun b o e n _ => un.free b o e n (by simp), fun b o e _ => un.there b o e (by simp), un.tups, un.frzs, un.tbls⟩, ⟨_, hns, fun i y v' e1 e2 e3 => ?_⟩, fun y c e => ?_, hCn, fun y c e => ?_, fun q hq => ?_, hok, ?_⟩
  · have hy : scope.names.lookup y = some .cell ∨ scope.names.lookup y = some .free := hy
    rcases hy with hy | hy
    · exact absurd rfl (L.nocell _ (PySem.mem_of_lookup hy))
    · exact look hy
  · have z : false = true := z
    cases z
  · have e3 : Vis scope y := e3
    have e1 : (xs ++ X.N)[i]? = some y := e1
    have e2 : (xs.map (fun _ => (none : Option V)) ++ σ)[i]? = some (some v') := e2
    by_cases hi : i < xs.length
    · rw [List.getElem?_append_left (by rw [List.length_map]; exact hi), List.getElem?_map, List.getElem?_eq_getElem hi] at e2
      cases e2
    · rw [List.getElem?_append_right (Nat.le_of_not_lt hi)] at e1
      rw [List.getElem?_append_right (by rw [List.length_map]; exact Nat.le_of_not_lt hi), List.length_map] at e2
      have hyN := List.mem_of_getElem? e1
      rcases e3 with k | k | k
      · rcases L.own _ (PySem.mem_of_lookup k) rfl with z | z
        · exact absurd hyN (hx _ z)
        · exact absurd (by rw [← show y = ".0" from z]; exact hyN) hdot
      · exact absurd rfl (L.nocell _ (PySem.mem_of_lookup k))
      · obtain ⟨m, hn, hl⟩ := I.loc
        have hvis : Vis X.env.scope y := (L.free _ (PySem.mem_of_lookup k) rfl).elim (fun k => .inr (.inl k)) (fun k => .inr (.inr k))
        obtain ⟨w', r, q⟩ := hl _ y v' e1 e2 hvis
        obtain ⟨c2, h2⟩ := look k
        refine ⟨w', r, .inr ⟨.inr k, c2, h2, ?_⟩⟩
        have c1 := cm h2
        rcases q with ⟨k', _⟩ | ⟨_, c3, e', z⟩
        · have k' : X.env.scope.names.lookup y = some .local := k'
          rcases L.free _ (PySem.mem_of_lookup k) rfl with k2 | k2 <;> rw [show X.env.scope.names.lookup y = _ from k2] at k' <;> cases k'
        · rw [c1] at e'
          cases e'
          exact cellK (I.freeC y _ c1) z
  · obtain ⟨w', z⟩ := I.cell y c (cm e)
    exact ⟨w', cellK (I.freeC y c (cm e)) z⟩
  · have n1 := I.freeC y c (cm e)
    obtain ⟨w', z⟩ := I.cell y c (cm e)
    obtain ⟨o, ho, _⟩ := z
    exact un.free c o ho n1 (by simp)
  · have hq : q ∈ pn := hq
    exact hpn q hq
  · show (xs.map (fun _ => none) ++ σ).length = (xs ++ X.N).length
    rw [List.length_append, List.length_append, List.length_map, I.len]
end
end Cl

set_option maxHeartbeats 0
namespace Cl
open PySem PySem.Spec PyProof.Rows L2
open GxR (TabB TabG Tabbed GenS inv_tab sh_eta)
structure GWT (G : Cx) (xs : List Str) (J : It) (fp : List Addr) (it : Addr) (tn : Nat → Heap → Prop) (tg : Expr) (tgw : TG) (n : Nat) (bs : Nat → Bool) (Pv : Nat → Hp → Prop) (tel : TE) (σ : L2.St) : Prop where
  calm : G.calm = true
  xe : ∀ u s, ¬ G.xe u s
  turn : Turn G.prog G.w G.K tg J fp it tn
  tgp : PG G tg tgw
  go : ∀ i H, i < n → Pv i H → J.go i H
  stop : ∀ H, Pv n H → J.stop n H
  step : ∀ (i : Nat) (v : V) (H H' : Hp) (os : L2.St), i < n → Pv i H → J.yld i H v H' → os.length = xs.length →
    tgw v (os ++ σ) H' fun σ2 H2 => (∃ os2 : L2.St, os2.length = xs.length ∧ σ2 = os2 ++ σ) ∧ tel σ2 H2 fun y H3 => y = .bl (bs i) ∧ Pv (i + 1) H3
section
variable {G : Cx} {xs : List Str} {J : It} {fp : List Addr} {it a : Addr} {tn : Nat → Heap → Prop} {tg : Expr} {tgw : TG} {n g : Nat} {bs : Nat → Bool} {Pv : Nat → Hp → Prop} {tel : TE} {σ : L2.St}
def tST (G : Cx) (xs : List Str) (fp : List Addr) (a : Addr) (tn : Nat → Heap → Prop) (g : Nat) (Pv : Nat → Hp → Prop) (σ : L2.St) (i : Nat) (s : Shared) : Prop :=
  ∃ (H : Hp) (os : L2.St) (oA : Obj), Inv G [(a, oA)] (os ++ σ) H s ∧ os.length = xs.length ∧ Pv i H ∧ tn i s.heap ∧ (∀ b ∈ fp, FpOk G [(a, oA)] H b) ∧ GenO g oA ∧ g < s.gens.size
def tM1 (G : Cx) (xs : List Str) (J : It) (fp : List Addr) (a : Addr) (tn : Nat → Heap → Prop) (g n : Nat) (Pv : Nat → Hp → Prop) (σ : L2.St) (i : Nat) (u : Value) (s : Shared) : Prop :=
  ∃ (H H' : Hp) (v : V) (os : L2.St) (oA : Obj), Inv G [(a, oA)] (os ++ σ) H' s ∧ os.length = xs.length ∧ Pv i H ∧ i < n ∧ J.yld i H v H' ∧ RelV v u ∧ tn (i + 1) s.heap ∧ (∀ b ∈ fp, FpOk G [(a, oA)] H' b) ∧ GenO g oA ∧ g < s.gens.size
def tM2 (G : Cx) (xs : List Str) (fp : List Addr) (a : Addr) (tn : Nat → Heap → Prop) (g : Nat) (bs : Nat → Bool) (Pv : Nat → Hp → Prop) (tel : TE) (σ : L2.St) (i : Nat) (s : Shared) : Prop :=
  ∃ (H : Hp) (os : L2.St) (oA : Obj), Inv G [(a, oA)] (os ++ σ) H s ∧ os.length = xs.length ∧ (tel (os ++ σ) H fun y H3 => y = .bl (bs i) ∧ Pv (i + 1) H3) ∧ tn (i + 1) s.heap ∧ (∀ b ∈ fp, FpOk G [(a, oA)] H b) ∧ GenO g oA ∧ g < s.gens.size
def tFIN (G : Cx) (xs : List Str) (Pv : Nat → Hp → Prop) (σ : L2.St) (n : Nat) (s : Shared) : Prop := ∃ (H : Hp) (os : L2.St), Inv G [] (os ++ σ) H s ∧ os.length = xs.length ∧ Pv n H
theorem kept_turn (T : Turn G.prog G.w G.K tg J fp it tn) {pins : List (Addr × Obj)} {i : Nat} {s s' : Shared} {σ' : L2.St} {H H' : Hp} (t : tn i s.heap) (hf : ∀ b ∈ fp, FpOk G pins H b) (J' : Inv G (pins ++ pinsAt fp s.heap) σ' H' s') :
    tn i s'.heap ∧ (∀ b ∈ fp, FpOk G pins H' b) ∧ Inv G pins σ' H' s' := by
  have at_ : ∀ b ∈ fp, ∀ o, s.heap.get? b = some o → (b, o) ∈ G.pn ++ (pins ++ pinsAt fp s.heap) := fun b hb o e => List.mem_append_right _ (List.mem_append_right _ (mem_pinsAt hb e))
  refine ⟨T.keep _ _ _ t fun b hb o e => (J'.pin _ (at_ b hb o e)).1, fun b hb => ?_, J'.unpinned⟩
  obtain ⟨o, e, _⟩ := T.obj _ _ t b hb
  exact ⟨(J'.pin _ (at_ b hb o e)).2.1, (hf b hb).2⟩
theorem gw_genT {elt : Expr} {A : Around} (hA : G.A = A.deeper G.env) (W : GWT G xs J fp it tn tg tgw n bs Pv tel σ) (helt : PE G elt tel) :
    GenT G.prog G.w A G.env it tg elt n bs (tST G xs fp a tn g Pv σ) (tM1 G xs J fp a tn g n Pv σ) (tM2 G xs fp a tn g bs Pv tel σ) (tFIN G xs Pv σ n) := by
  refine ⟨fun i s Q E hi st hQ => ?_, fun i v s Q E h hQ => ?_, fun i s Q E h hQ => ?_, fun s Q E st hQ => ?_, fun s Q E st hQ => ?_⟩
  · obtain ⟨H, os, oA, J0, lo, p, ht, hf, hA2, hg⟩ := st
    refine GenW.wpAny_gsz (n := g + 1) hg ?_
    rw [← hA]
    refine wpAny_mono (W.turn.item G rfl rfl rfl W.calm i _ s _ H (fun _ _ => False) J0 hf ht (W.go i H hi p)) (fun r s1 hr hsz => ?_) fun _ _ z => z.elim
    obtain ⟨u, rfl, hu⟩ := hr
    refine hQ u s1 ?_
    refine GenW.wpAny_gsz (n := g + 1) hsz ?_
    rw [hA] at hu
    refine wpAny_mono hu (fun _ s2 hs hsz2 => ?_) fun _ _ (z : False) => z.elim
    obtain ⟨x, H', J1, rx, yx, t1, f1⟩ := hs
    exact ⟨H, H', x, os, oA, J1, lo, p, hi, yx, rx, t1, fun b hb => ⟨f1 b hb, (hf b hb).2⟩, hA2, hsz2⟩
  · obtain ⟨H, H', x, os, oA, J1, lo, p, hi, y, r, t1, f1, hA2, hg⟩ := h
    have J2 := J1.pinned f1 (W.turn.obj _ _ t1)
    refine GenW.wpAny_gsz (n := g + 1) hg ?_
    rw [← hA]
    refine wpAny_mono (W.tgp.run _ s _ H' x v _ J2 r (W.step i x H H' os hi p y lo)) (fun _ s' hs hsz => ?_) fun u s' hs => absurd hs (W.xe u s')
    obtain ⟨σ', H2, J3, ⟨os2, lo2, rfl⟩, ht⟩ := hs
    obtain ⟨t2, f2, J4⟩ := kept_turn W.turn t1 f1 J3
    exact hQ s' ⟨H2, os2, oA, J4, lo2, ht, t2, f2, hA2, hsz⟩
  · obtain ⟨H, os, oA, J1, lo, ht, t1, f1, hA2, hg⟩ := h
    have J2 := J1.pinned f1 (W.turn.obj _ _ t1)
    refine GenW.wpAny_gsz (n := g + 1) hg ?_
    rw [← hA]
    refine wpAny_mono (helt.run _ s _ H _ J2 ht) (fun u s' hs hsz => ?_) fun u s' hs => absurd hs (W.xe u s')
    obtain ⟨y, H', J3, r, rfl, p'⟩ := hs
    obtain rfl : u = Value.bool (bs i) := r
    obtain ⟨t2, f2, J4⟩ := kept_turn W.turn t1 f1 J3
    exact hQ s' ⟨H', os, oA, J4, lo, p', t2, f2, hA2, hsz⟩
  · obtain ⟨H, os, oA, J0, lo, p, ht, hf, hA2, hg⟩ := st
    rw [← hA]
    refine wpAny_mono (W.turn.done G rfl rfl rfl W.calm n _ s _ H (fun _ _ => False) J0 hf ht (W.stop H p)) (fun r s1 hr => ?_) fun _ _ z => z.elim
    obtain ⟨rfl, J1⟩ := hr
    exact hQ s1 ⟨H, os, J1.pins_of fun q hq => (nomatch hq), lo, p⟩
  · obtain ⟨H, os, oA, J0, lo, p, ht, _⟩ := st
    exact W.turn.self _ 0 s Q E ht hQ
theorem gw_sideT : SideN a g (tST G xs fp a tn g Pv σ) where
  gen := fun i s ⟨H, os, oA, J, _, _, _, _, ⟨nm, qn, h1, h2, h3⟩, _⟩ => ⟨oA, nm, qn, (J.pin (a, oA) (List.mem_append_right _ (by simp))).1, h1, h2, h3⟩
  lim := fun i s ⟨H, os, oA, J, _⟩ => J.nolimit
  sz := fun i s ⟨_, _, _, _, _, _, _, _, _, h⟩ => h
  set := fun i s y hy ⟨H, os, oA, J, lo, p, ht, hf, hA, hg⟩ => ⟨H, os, oA, Inv.setGen J hy, lo, p, ht, hf, hA, by rw [GenW.setGen_size]; exact hg⟩
end
end Cl

set_option maxHeartbeats 0
namespace Cl
open PySem PySem.Spec PyProof.Rows L2
open GxR (TabB TabG Tabbed GenS inv_tab sh_eta)
section
variable {X : Cx}
theorem gen_coreT {c P : Addr} {elt tg iter : Expr} {xs : List Str} {Ji : It} {fp : List Addr} {it : Addr} {tn : Nat → Heap → Prop} {gpos : Pos} {scope : Scope} {tel : TE} {tgw : TG} {k : Nat} {pins : List (Addr × Obj)} {σ : L2.St} {s1 : Shared} {H1 : Hp} {n : Nat} {bs : Nat → Bool} {Pv : Nat → Hp → Prop} {Q' : Value → Shared → Prop}
    (hr : RG (k + 2) X.A) (TB : TabB X.base X.mg c P) (hcode : X.env.code = .ref c) (L : GenKL X.env.scope scope xs) (hx : ∀ x ∈ xs, x ∉ X.N) (hdot : (".0" : Str) ∉ X.N)
    (htg : ∀ (s1 : Shared) (H1 : Hp) (C : Addr) (code : Value) (fp : List Addr), PG (genCxT X xs X.A.in1.in1 s1 H1 (gEnv X scope C code) fp) tg tgw)
    (helt : ∀ (s1 : Shared) (H1 : Hp) (C : Addr) (code : Value) (fp : List Addr), RG k (X.A.in1.in1.deeper (gEnv X scope C code)) → PE (genCxT X xs X.A.in1.in1 s1 H1 (gEnv X scope C code) fp) elt tel)
    (I1 : Inv X pins σ H1 s1) (hTn : Turn X.prog X.w X.K tg Ji fp it tn) (ht0 : tn 0 s1.heap) (hfp : ∀ b ∈ fp, FpOk X pins H1 b) (hT : TabG H1 P)
    (hgoes : ∀ i H, i < n → Pv i H → Ji.go i H) (hstop : ∀ H, Pv n H → Ji.stop n H) (hp0 : ∀ H2, Same H1 H2 → TabG H2 P → Pv 0 H2)
    (hstep : ∀ (i : Nat) (v : V) (H H' : Hp) (os : L2.St), i < n → Pv i H → Ji.yld i H v H' → os.length = xs.length → tgw v (os ++ σ) H' fun σ2 H2 => (∃ os2 : L2.St, os2.length = xs.length ∧ σ2 = os2 ++ σ) ∧ tel σ2 H2 fun y H3 => y = .bl (bs i) ∧ Pv (i + 1) H3)
    (hQ : ∀ (a : Addr) (g : Nat) (s5 : Shared) (ST : Nat → Shared → Prop) (FIN : Shared → Prop), s5.heap.IsGen a g → SideN a g ST → AtN X.prog X.w X.A.in1.in1 a g n bs ST FIN 0 s5 →
      (∀ i s', ST i s' → ∃ H', (Pv i H') ∧ ∀ (b : Bool) (Q : VK), Q (.bl b) H' → EP X pins σ Q (.bool b) s') →
      (∀ s' h', FIN s' → (∀ b o, s'.heap.get? b = some o → h'.get? b = some o) → ∃ H', (Pv n H') ∧ ∀ (b : Bool) (Q : VK), Q (.bl b) H' → EP X pins σ Q (.bool b) { s'.setGen g .finished with heap := h' }) → Q' (.ref a) s5) :
    s1.heap.NoLimit ∧
      wpAny (model X.prog X.w) X.A (genexprCode X.env gpos (X.env.qual ++ "<genexpr>") scope) (fun code s₃ => wpAny (model X.prog X.w) X.A (builtinsFor X.env.globals X.env.builtins) (fun bi s₄ =>
        ∀ h', h'.Ns s₄.heap.objs.size (fun y => if y = ".0" then some (.ref it) else none) → Heap.SameBut s₄.heap.objs.size (s₄.heap.push { cls := .type "frame", data := .dict #[] }) h' →
          Q' (.ref h'.objs.size) { s₄ with
            gens := s₄.gens.push (.fresh (.compStart (.GeneratorExp elt [⟨tg, iter, [], 0⟩] scope gpos) 0 (.ref it) .none (genEnv scope (cloFrom X.env.cells scope.names []) s₄.heap.objs.size code bi X.env))),
            toks := s₄.toks + 1 + 1 + 1,
            heap := h'.push { cls := .type "generator", data := .fields #[.int s₄.gens.size 0, .str "<genexpr>" (s₄.toks + 1), .str (X.env.qual ++ "<genexpr>") (s₄.toks + 1 + 1)] } }) X.xe s₃) X.xe s1 := by
  have hfl : ∀ b ∈ fp, b < s1.heap.objs.size := fun b hb => by
    obtain ⟨o, e, _⟩ := hTn.obj _ _ ht0 b hb
    exact Heap.lt_size e
  obtain ⟨ps, hP, ht⟩ := id hT
  have hPs : s1.heap.get? P = some { cls := .none, data := .fields ps } := I1.hok P _ hP
  have hPlt : P < s1.heap.objs.size := Heap.lt_size hPs
  have cd : PySem.W.CodeHd s1.heap c P := TB.code.keeps fun b u e => I1.bk b u e
  have cont : ∀ (code : Value) (h3 : Heap) (tk : Nat) (ps' : Array Value), Heap.ExtBut P s1.heap h3 → s1.heap.objs.size ≤ h3.objs.size → h3.get? P = some { cls := .none, data := .fields ps' } → (∃ more, ps' = ps ++ more) → TriplesOk ps'.toList →
      wpAny (model X.prog X.w) X.A (builtinsFor X.env.globals X.env.builtins) (fun bi s₄ =>
        ∀ h', h'.Ns s₄.heap.objs.size (fun y => if y = ".0" then some (.ref it) else none) → Heap.SameBut s₄.heap.objs.size (s₄.heap.push { cls := .type "frame", data := .dict #[] }) h' →
          Q' (.ref h'.objs.size) { s₄ with
            gens := s₄.gens.push (.fresh (.compStart (.GeneratorExp elt [⟨tg, iter, [], 0⟩] scope gpos) 0 (.ref it) .none (genEnv scope (cloFrom X.env.cells scope.names []) s₄.heap.objs.size code bi X.env))),
            toks := s₄.toks + 1 + 1 + 1,
            heap := h'.push { cls := .type "generator", data := .fields #[.int s₄.gens.size 0, .str "<genexpr>" (s₄.toks + 1), .str (X.env.qual ++ "<genexpr>") (s₄.toks + 1 + 1)] } }) X.xe { s1 with heap := h3, toks := tk } := by
    intro code h3 tk ps' hx3 hsz hP3 hmore ht3
    obtain ⟨bm, ob, e1, e2, e3, e4, e5, e6, e7, e8⟩ := TB.bm
    have keep3 : ∀ b u, b ≠ P → s1.heap.get? b = some u → h3.get? b = some u := fun b u hb e => hx3 b u hb e
    refine wpAny_builtinsFor (m := X.mg) (by rw [I1.ok.glob]; exact (I1.mod.glob.keeps I1.bk).extBut hx3 TB.gP) e1 e2 (keep3 _ _ e4 (I1.bk _ _ e5)) e6 e7 e8 ?_
    intro h4 hns4 hsb4
    show Q' (.ref h4.objs.size) _
    have hC4 : h4.objs.size = h3.objs.size + 1 := by rw [hsb4.1, Heap.size_push]
    obtain ⟨more, em⟩ := hmore
    subst em
    have nP : ∀ b, H1 b = none → b ≠ P := fun b n z => by rw [z, hP] at n; cases n
    have keep4 : ∀ b u, b ≠ P → s1.heap.get? b = some u → h4.get? b = some u := fun b u hb e => hsb4.extBut b u (Nat.ne_of_lt (Nat.lt_of_lt_of_le (Heap.lt_size e) hsz)) (Heap.get?_push_of_some _ (keep3 b u hb e))
    have hP4 : h4.get? P = some { cls := .none, data := .fields (ps ++ more) } := hsb4.extBut P _ (Nat.ne_of_lt (Nat.lt_of_lt_of_le hPlt hsz)) (Heap.get?_push_of_some _ hP3)
    generalize hgo : ({ cls := .type "generator", data := .fields #[.int s1.gens.size 0, .str "<genexpr>" (tk + 1), .str (X.env.qual ++ "<genexpr>") (tk + 1 + 1)] } : Obj) = go
    have hA5 : (h4.push go).get? h4.objs.size = some go := Heap.get?_push_size _ (by rw [← hgo]; rfl)
    have keep5 : ∀ b u, b ≠ P → s1.heap.get? b = some u → (h4.push go).get? b = some u := fun b u hb e => Heap.get?_push_of_some _ (keep4 b u hb e)
    have hP5 : (h4.push go).get? P = some { cls := .none, data := .fields (ps ++ more) } := Heap.get?_push_of_some _ hP4
    generalize hgs : (GenState.fresh (.compStart (.GeneratorExp elt [⟨tg, iter, [], 0⟩] scope gpos) 0 (.ref it) .none (gEnv X scope h3.objs.size code))) = gs
    have gb : gs.bare = true := by rw [← hgs]; rfl
    have J := inv_tab (more := more) (h' := h4.push go) (g' := s1.gens.push gs) (d' := s1.drawn) (t' := tk + 1 + 1 + 1) I1 hP keep5 hP5 (I1.bare.push gb)
    have fresh : ∀ b, s1.heap.objs.size ≤ b → b ≠ P → upd H1 P (.tbl (ps ++ more)) b = none := fun b hb n => by rw [upd_ne n]; exact I1.hok.fresh hb
    have neP : ∀ b, s1.heap.objs.size ≤ b → b ≠ P := fun b hb z => by rw [z] at hb; exact absurd hPlt (Nat.not_lt.mpr hb)
    have noStk : ∀ b, s1.heap.objs.size ≤ b → b ∉ frs X.stack := fun b hb z => by
      rcases List.mem_cons.mp (I1.stkSub b z) with e | z
      · rw [e] at hb; exact absurd I1.lt (Nat.not_lt.mpr hb)
      · exact I1.nofs hb z
    have lC : s1.heap.objs.size ≤ h3.objs.size := hsz
    have lA : s1.heap.objs.size ≤ h4.objs.size := by rw [hC4]; exact Nat.le_trans lC (Nat.le_succ _)
    have un : Un (frs X.stack) [] H1 (upd H1 P (.tbl (ps ++ more))) s1.heap (h4.push go) := by
      have at_ : ∀ b, b ≠ P → upd H1 P (.tbl (ps ++ more)) b = H1 b := fun b h => upd_ne h
      have nQ : ∀ b u, H1 b = some u → (∀ q, u ≠ .tbl q) → b ≠ P := fun b u e q z => by
        rw [z, hP] at e
        exact q _ (Option.some.inj e).symm
      refine ⟨fun b o e n _ _ => keep5 b o (nP b n) e, fun b o e n _ _ => ⟨o.slots, keep5 b o (nP b n) e⟩, fun b o _ n _ => by rw [at_ b (nP b n)]; exact n, fun b o e _ => ?_, fun b ys e => by rw [at_ b (nQ b _ e fun q z => nomatch z)]; exact e, fun b o u e => by rw [at_ b (nQ b _ e fun q z => nomatch z)]; exact e, fun b qs e => ?_⟩
      · by_cases hb : b = P
        · rw [hb]; exact ⟨_, hP5⟩
        · exact ⟨o, keep5 b o hb e⟩
      · by_cases hb : b = P
        · rw [hb, hP] at e
          cases e
          exact ⟨more, by rw [hb, upd_same]⟩
        · exact ⟨#[], by rw [at_ b hb, e]; simp⟩
    have nfP : ∀ b ∈ fp, b ≠ P := fun b hb z => by
      have := (hfp b hb).1
      rw [z, hP] at this
      cases this
    have nfC : ∀ b ∈ fp, b ≠ h3.objs.size := fun b hb => Nat.ne_of_lt (Nat.lt_of_lt_of_le (hfl b hb) lC)
    have St := gen_startT (xs := xs) (C := h3.objs.size) (P := P) (code := code) (m := fun y => if y = ".0" then some (.ref it) else none) (A := X.A.in1.in1) (s4 := { s1 with heap := h4.push go, gens := s1.gens.push gs, drawn := s1.drawn, toks := tk + 1 + 1 + 1 }) (pn := [(h4.objs.size, go)]) (fp := fp) I1 L I1.ok.frames hr.room.hd hx hdot lC ⟨ps, hP⟩ keep5 un J.hok J.bare rfl
      (hns4.push _) (fresh _ lC (neP _ lC)) (fun p hp => by
        rw [List.mem_singleton.mp hp]
        exact ⟨hA5, fresh _ lA (neP _ lA), by show h4.objs.size ≠ h3.objs.size; rw [hC4]; exact Nat.succ_ne_self _, noStk _ lA, fun v z => by rw [← hgo] at z; cases z⟩) hfp nfC
    have tb : Tabbed P H1 (upd H1 P (.tbl (ps ++ more))) := ⟨⟨ps ++ more, upd_same, ht3⟩, fun b hb => upd_ne hb⟩
    have sm := Same.tabbed hT tb
    have hrG : RG k (X.A.in1.in1.deeper (gEnv X scope h3.objs.size code)) := ⟨⟨hr.room.hd, by have := hr.room.dp; show X.A.depth + 1 + 3 * k + 5 < _; omega, by have := hr.room.un; show X.A.units + 1 + 1 + 3 + 16 * k + 200 < _; omega⟩, hr.gd⟩
    have GWw : GWT (genCxT X xs X.A.in1.in1 s1 H1 (gEnv X scope h3.objs.size code) fp) xs Ji fp it tn tg tgw n bs Pv tel σ :=
      ⟨rfl, fun u s z => z, hTn, htg s1 H1 _ _ fp, hgoes, hstop, hstep⟩
    have GG := gw_genT (a := h4.objs.size) (g := s1.gens.size) (elt := elt) (A := X.A.in1.in1) (by rfl) GWw (helt s1 H1 _ _ fp hrG)
    have p0 : Pv 0 (upd H1 P (.tbl (ps ++ more))) := hp0 _ sm tb.1
    have cm : ∀ y c, (cloFrom X.env.cells scope.names []).lookup y = some c → X.env.cells.lookup y = some c := fun y c e => by
      have hfree := L.has I1.ok
      rcases cloFrom_mem (PySem.mem_of_lookup e) with hm | ⟨h1, h2⟩
      · cases hm
      · obtain ⟨c1, hc⟩ := hfree _ h1 rfl
        have hc : X.env.cells.lookup y = some c1 := hc
        have e2 : c = c1 := by rw [h2, hc] <;> rfl
        rw [e2]
        exact hc
    have st0 : tST (genCxT X xs X.A.in1.in1 s1 H1 (gEnv X scope h3.objs.size code) fp) xs fp h4.objs.size tn s1.gens.size Pv σ 0 { s1 with heap := h4.push go, gens := s1.gens.push gs, drawn := s1.drawn, toks := tk + 1 + 1 + 1 } :=
      ⟨_, xs.map (fun _ => none), go, St, by rw [List.length_map], p0, hTn.keep _ _ _ ht0 fun b hb o e => keep5 b o (nfP b hb) e, fun b hb => ⟨by rw [upd_ne (nfP b hb)]; exact (hfp b hb).1, nfC b hb, fun z => by
          obtain ⟨_, f1, f2, _⟩ := hfp b hb
          rcases List.mem_cons.mp (I1.stkSub b z) with e | z
          · exact f1 e
          · exact f2 z, .inl hb, fun y c e => (hfp b hb).2.2.2.2.1 y c (cm y c e), fun p hp => by
          have hp : p ∈ [(h4.objs.size, go)] := hp
          rw [List.mem_singleton.mp hp]
          exact fun z => absurd (hfl b hb) (Nat.not_lt.mpr (by rw [← show h4.objs.size = b from z]; exact lA))⟩, by rw [← hgo]; exact ⟨_, _, rfl, rfl, rfl⟩, by show s1.gens.size < (s1.gens.push gs).size; rw [Array.size_push]; exact Nat.lt_succ_self _⟩
    have side := gw_sideT (G := genCxT X xs X.A.in1.in1 s1 H1 (gEnv X scope h3.objs.size code) fp) (xs := xs) (fp := fp) (a := h4.objs.size) (tn := tn) (g := s1.gens.size) (Pv := Pv) (σ := σ)
    have back : ∀ {pn : List (Addr × Obj)} {os : L2.St} {H : Hp} {s' : Shared}, Inv (genCxT X xs X.A.in1.in1 s1 H1 (gEnv X scope h3.objs.size code) fp) pn (os ++ σ) H s' → ∀ (b : Bool) (Q : VK), Q (.bl b) H → EP X pins σ Q (.bool b) s' := fun {pn os H s'} J b Q q =>
      ⟨.bl b, H, I1.call' (ch := fp) J.os J.base J.hok J.bare (fun b hb => ⟨(hfp b hb).2.2.2.1, (hfp b hb).2.1, (hfp b hb).2.2.2.2.1, (hfp b hb).2.2.2.2.2⟩), rfl, q⟩
    have out1 : ∀ i s', tST (genCxT X xs X.A.in1.in1 s1 H1 (gEnv X scope h3.objs.size code) fp) xs fp h4.objs.size tn s1.gens.size Pv σ i s' → ∃ H', (Pv i H') ∧ ∀ (b : Bool) (Q : VK), Q (.bl b) H' → EP X pins σ Q (.bool b) s' :=
      fun i s' ⟨H', os, oA, J', lo, p, _⟩ => ⟨H', p, fun b Q q => back J' b Q q⟩
    have out2 : ∀ s' h', tFIN (genCxT X xs X.A.in1.in1 s1 H1 (gEnv X scope h3.objs.size code) fp) xs Pv σ n s' → (∀ b o, s'.heap.get? b = some o → h'.get? b = some o) → ∃ H', (Pv n H') ∧ ∀ (b : Bool) (Q : VK), Q (.bl b) H' → EP X pins σ Q (.bool b) { s'.setGen s1.gens.size .finished with heap := h' } :=
      fun s' h' ⟨H', os, J', lo, p⟩ k => ⟨H', p, fun b Q q => back (Inv.kept (t' := s'.toks) (Inv.setGen (g := s1.gens.size) (y := .finished) J' rfl) k) b Q q⟩
    refine hQ h4.objs.size s1.gens.size _ _ _ (side.gen 0 _ st0) side ⟨st0, gs, Array.getElem?_push_size .., fun s'' hal => ?_⟩ out1 out2
    rw [← hgs]
    exact ⟨rfl, by rw [Nat.sub_zero]; exact seg_startT (iter := iter) (scope := scope) (pos := gpos) L.co GG s'' s'' hal⟩
  refine ⟨I1.nolimit, ?_⟩
  cases hf : codeAmong gpos ps.toList with
  | none =>
    refine wpAny_genexprCodeX hcode (cd.code hPs ht) (cd.tab hPs) hf fun c' h' tk hx hge hlt hco' _ htab' _ => ?_
    obtain ⟨o1, vs, f1, tf, fl, tg, inF, tx, tt, op, _, _, _, _, _, _, _, _, _, htr, _⟩ := hco'
    exact cont _ h' tk _ hx (Nat.le_trans hge (Nat.le_of_lt hlt)) htab'.2 ⟨_, rfl⟩ htr
  | some cv =>
    refine wpAny_genexprCode_hit hcode (cd.code hPs ht) hf ?_
    exact cont cv s1.heap s1.toks ps (Heap.ExtBut.refl _ _) (Nat.le_refl _) hPs ⟨#[], by simp⟩ ht
/-- all(elt for tg in iter), any(..) over any iterator -/
def tAllI (P : Addr) (m : Nat) (stop : Bool) (wi : TI) (tgw : TG) (tel : TE) : TE := fun σ H Q => wi σ H fun J H1 => ∃ (n : Nat) (bs : Nat → Bool) (Pv : Nat → Hp → Prop), TabG H1 P ∧
  (∀ i H, i < n → Pv i H → J.go i H) ∧ (∀ H, Pv n H → J.stop n H) ∧ (∀ H2, Same H1 H2 → TabG H2 P → Pv 0 H2) ∧
  (∀ (i : Nat) (v : V) (H H' : Hp) (os : L2.St), i < n → Pv i H → J.yld i H v H' → os.length = m → tgw v (os ++ σ) H' fun σ2 H2 => (∃ os2 : L2.St, os2.length = m ∧ σ2 = os2 ++ σ) ∧ tel σ2 H2 fun y H3 => y = .bl (bs i) ∧ Pv (i + 1) H3) ∧
  (∀ i H2, i < n → bs i = stop → Pv (i + 1) H2 → Q (.bl stop) H2) ∧ (∀ H2, (∀ i, i < n → bs i = !stop) → Pv n H2 → Q (.bl (!stop)) H2)
theorem pe_allI {c P : Addr} {elt tg iter : Expr} {xs : List Str} {p pos gpos : Pos} {scope : Scope} {wi : TI} {tel : TE} {tgw : TG} {k : Nat}
    (hr : RG (k + 2) X.A) (hg : Gl X "all") (hm : X.mg "all" = none) (TB : TabB X.base X.mg c P) (hcode : X.env.code = .ref c) (L : GenKL X.env.scope scope xs) (hx : ∀ x ∈ xs, x ∉ X.N) (hdot : (".0" : Str) ∉ X.N) (hi : PI X tg iter wi)
    (htg : ∀ (s1 : Shared) (H1 : Hp) (C : Addr) (code : Value) (fp : List Addr), PG (genCxT X xs X.A.in1.in1 s1 H1 (gEnv X scope C code) fp) tg tgw)
    (helt : ∀ (s1 : Shared) (H1 : Hp) (C : Addr) (code : Value) (fp : List Addr), RG k (X.A.in1.in1.deeper (gEnv X scope C code)) → PE (genCxT X xs X.A.in1.in1 s1 H1 (gEnv X scope C code) fp) elt tel)
    (hs : ∀ v, genFold iter X.env v = pure v := by intro _; rfl)
    (he : starEach [.GeneratorExp elt [⟨tg, iter, [], 0⟩] scope gpos] X.env = (false, eval (.GeneratorExp elt [⟨tg, iter, [], 0⟩] scope gpos) X.env) :: starEach [] X.env := by rfl) :
    PE X (.Call (.Name "all" p) [.GeneratorExp elt [⟨tg, iter, [], 0⟩] scope gpos] [] pos) (tAllI P xs.length false wi tgw tel) := by
  refine ⟨fun pins s σ H Q I h => ?_⟩
  refine wpAny_Call_Name_kw (ld_blt I hg hm PyProof.Rows.boot_all ?_)
  refine PyProof.Rows.callWith_builtin1 ?_ he (by rfl)
  rw [he]
  show wpAny _ _ (spliced ((false, eval (.GeneratorExp elt [⟨tg, iter, [], 0⟩] scope gpos) X.env) :: backTo pos (starEach [] X.env))) _ _ s
  refine Calls.spliced_cons ?_
  refine wpAny_GeneratorExp_make L.co (closure_ok (L.has I.ok)) L.nocell L.dot L.kind (by have := hr.room.dp; omega) ?_ hs
  refine thn (hi.run pins s σ H _ I h) fun xv s0 h0 => ?_
  refine wpAny_mono h0 (fun itv s1 h1 => ?_) fun _ _ z => z
  obtain ⟨it, fp, tn, J, H1, rfl, I1, hTn, ht0, hfp, n, bs, Pv, hT, hgo, hstop, hp0, hstep, q2, q3⟩ := h1
  refine gen_coreT (gpos := gpos) (tg := tg) (iter := iter) (xs := xs) (elt := elt) (scope := scope) (Q' := fun v s' => wpAny (model X.prog X.w) X.A (spliced (backTo pos (starEach [] X.env))) (fun vs s2 => wpAny (model X.prog X.w) X.A (call (.builtin "all") (v :: vs)) (EP X pins σ Q) X.xe s2) X.xe s') hr TB hcode L hx hdot htg helt I1 hTn ht0 hfp hT hgo hstop hp0 hstep fun a g s5 ST FIN hgen side at_ out1 out2 => ?_
  refine Calls.spliced_nil ?_
  refine call_function_tree PySem.F.kind_all PySem.F.plain_all PySem.F.entry_all (PySem.F.args_all1 _) ?_
  unfold Builtin.«all»
  refine wpAny_bind (m := oneArg "all" _) (wpAny_pure ?_)
  refine wpAny_bind (wpAny_pyIter_gen hgen ?_)
  refine wpAny_pure ⟨plainId_quiet PySem.F.plain_all_loop _, all_loopN (A := X.A) hr.room.hd (by have := hr.room.dp; omega) side _ 0 s5 rfl (Nat.zero_le _) at_ (fun j hj => absurd hj (Nat.not_lt_zero _)) (fun i s' hi hb st => ?_) fun s' h' all hf hk => ?_⟩
  · obtain ⟨H', p, e⟩ := out1 (i + 1) s' st
    exact e false Q (q2 i H' hi hb p)
  · obtain ⟨H', p, e⟩ := out2 s' h' hf hk
    exact e true Q (q3 H' all p)
theorem pe_anyI {c P : Addr} {elt tg iter : Expr} {xs : List Str} {p pos gpos : Pos} {scope : Scope} {wi : TI} {tel : TE} {tgw : TG} {k : Nat}
    (hr : RG (k + 2) X.A) (hg : Gl X "any") (hm : X.mg "any" = none) (TB : TabB X.base X.mg c P) (hcode : X.env.code = .ref c) (L : GenKL X.env.scope scope xs) (hx : ∀ x ∈ xs, x ∉ X.N) (hdot : (".0" : Str) ∉ X.N) (hi : PI X tg iter wi)
    (htg : ∀ (s1 : Shared) (H1 : Hp) (C : Addr) (code : Value) (fp : List Addr), PG (genCxT X xs X.A.in1.in1 s1 H1 (gEnv X scope C code) fp) tg tgw)
    (helt : ∀ (s1 : Shared) (H1 : Hp) (C : Addr) (code : Value) (fp : List Addr), RG k (X.A.in1.in1.deeper (gEnv X scope C code)) → PE (genCxT X xs X.A.in1.in1 s1 H1 (gEnv X scope C code) fp) elt tel)
    (hs : ∀ v, genFold iter X.env v = pure v := by intro _; rfl)
    (he : starEach [.GeneratorExp elt [⟨tg, iter, [], 0⟩] scope gpos] X.env = (false, eval (.GeneratorExp elt [⟨tg, iter, [], 0⟩] scope gpos) X.env) :: starEach [] X.env := by rfl) :
    PE X (.Call (.Name "any" p) [.GeneratorExp elt [⟨tg, iter, [], 0⟩] scope gpos] [] pos) (tAllI P xs.length true wi tgw tel) := by
  refine ⟨fun pins s σ H Q I h => ?_⟩
  refine wpAny_Call_Name_kw (ld_blt I hg hm PyProof.Rows.boot_any ?_)
  refine PyProof.Rows.callWith_builtin1 ?_ he (by rfl)
  rw [he]
  show wpAny _ _ (spliced ((false, eval (.GeneratorExp elt [⟨tg, iter, [], 0⟩] scope gpos) X.env) :: backTo pos (starEach [] X.env))) _ _ s
  refine Calls.spliced_cons ?_
  refine wpAny_GeneratorExp_make L.co (closure_ok (L.has I.ok)) L.nocell L.dot L.kind (by have := hr.room.dp; omega) ?_ hs
  refine thn (hi.run pins s σ H _ I h) fun xv s0 h0 => ?_
  refine wpAny_mono h0 (fun itv s1 h1 => ?_) fun _ _ z => z
  obtain ⟨it, fp, tn, J, H1, rfl, I1, hTn, ht0, hfp, n, bs, Pv, hT, hgo, hstop, hp0, hstep, q2, q3⟩ := h1
  refine gen_coreT (gpos := gpos) (tg := tg) (iter := iter) (xs := xs) (elt := elt) (scope := scope) (Q' := fun v s' => wpAny (model X.prog X.w) X.A (spliced (backTo pos (starEach [] X.env))) (fun vs s2 => wpAny (model X.prog X.w) X.A (call (.builtin "any") (v :: vs)) (EP X pins σ Q) X.xe s2) X.xe s') hr TB hcode L hx hdot htg helt I1 hTn ht0 hfp hT hgo hstop hp0 hstep fun a g s5 ST FIN hgen side at_ out1 out2 => ?_
  refine Calls.spliced_nil ?_
  refine call_function_tree PySem.F.kind_any PySem.F.plain_any PySem.F.entry_any (PySem.F.args_any1 _) ?_
  unfold Builtin.«any»
  refine wpAny_bind (m := oneArg "any" _) (wpAny_pure ?_)
  refine wpAny_bind (wpAny_pyIter_gen hgen ?_)
  refine wpAny_pure ⟨plainId_quiet PySem.F.plain_any_loop _, any_loopN (A := X.A) hr.room.hd (by have := hr.room.dp; omega) side _ 0 s5 rfl (Nat.zero_le _) at_ (fun j hj => absurd hj (Nat.not_lt_zero _)) (fun i s' hi hb st => ?_) fun s' h' all hf hk => ?_⟩
  · obtain ⟨H', p, e⟩ := out1 (i + 1) s' st
    exact e true Q (q2 i H' hi hb p)
  · obtain ⟨H', p, e⟩ := out2 s' h' hf hk
    exact e false Q (q3 H' all p)
end
end Cl

set_option maxHeartbeats 0
namespace PySem
open Sem (wp)
section
variable {prog : Program} {w : World} {K : Type} [DecidableEq K] {knd : KeyKind prog w K} {A : Around} {E : Value → Shared → Prop} {s : Shared}

theorem wpAny_dictPut_pairs {d : Addr} {kvs : List (K × Value)} {k : K} {key v : Value} {Q : Unit → Shared → Prop} (hkey : knd.is k key = true) (hm : s.heap.DictOf knd d kvs)
    (hQ : ∀ h', h'.DictOf knd d (stored kvs k v) → Heap.SameBut d s.heap h' → Q () { s with heap := h' })
    (hsz : kvs.length ≤ sizeLine) :
    wpAny (model prog w) A (dictPut d (knd.hash k) key v) Q E s := by
  obtain ⟨o, es, ep, ho, hc, hd, hk, hp, hn⟩ := hm
  have hes : es.size ≤ sizeLine := by have e1 := hp.length; have e2 : es.toList.length = es.size := by simp
                                      omega
  unfold dictPut
  try with_reducible refine wpAny_holding ?_
  refine wpAny_bind (wpAny_dictFind_of hkey ho hd hk ?_)
  have hidx : (es.findIdx? fun e => knd.is k e.key) = kvs.findIdx? fun kv => decide (kv.1 = k) := by
    rw [← hp.findIdx k]; obtain ⟨l⟩ := es; simp
  cases hi : es.findIdx? fun e => knd.is k e.key with
  | some i =>
    refine (wpAny_updateDict ho hd ((hQ _ ⟨_, _, ep, Heap.get?_update_self _ ho (Obj.isFreed_of_dict (Obj.data_mapDict hd _)),
      hc.mapDict _, Obj.data_mapDict hd _, hk.modify _ _, ?_, ?_⟩ (Heap.SameBut.update ..))))
    · rw [stored, if_pos (any_of_findIdx_some (hidx ▸ hi))]
      have hl : (es.toList.findIdx? fun e => knd.is k e.key) = some i := by rw [← hi]; obtain ⟨l⟩ := es; simp
      have := hp.modify hn hl v
      obtain ⟨l⟩ := es
      simpa using this
    · rw [stored, if_pos (any_of_findIdx_some (hidx ▸ hi)), keys_map_store]; exact hn
  | none =>
    have hnot : k ∉ kvs.map (·.1) := not_mem_of_findIdx_none (hidx ▸ hi)
    have hany : ¬ (kvs.any fun kv => decide (kv.1 = k)) = true := by
      rw [List.any_eq_true]; rintro ⟨kv, hkv, he⟩
      exact hnot (List.mem_map.mpr ⟨kv, hkv, of_decide_eq_true he⟩)
    refine (wpAny_updateDictKeys (hz := hes) ho hd (hQ _ ⟨_, _, ep + 1, Heap.get?_update_self _ ho (Obj.isFreed_of_dict (Obj.data_mapDictKeys hd _)),
      hc.mapDictKeys _, Obj.data_mapDictKeys hd _, hk.push hkey _, ?_, ?_⟩ (Heap.SameBut.update ..)))
    · rw [stored, if_neg hany]
      have := hp.append hkey (knd.hash k) v
      obtain ⟨l⟩ := es
      simpa using this
    · rw [stored, if_neg hany, List.map_append, List.nodup_append]
      refine ⟨hn, by simp, ?_⟩
      intro a ha b hb
      simp only [List.map_cons, List.map_nil, List.mem_singleton] at hb
      subst hb
      exact fun e => hnot (e ▸ ha)

theorem wpAny_mergeMapping {d o : Addr} {kvs more : List (K × Value)} {Q : Unit → Shared → Prop} (hdo : d ≠ o) (hoS : (o == sysModules) = false) (nr : ∀ k key, knd.is k key = true → ∀ a, key ≠ .ref a)
    (hd : s.heap.DictOf knd d kvs) (ho : s.heap.DictOf knd o more)
    (hQ : ∀ h', h'.DictOf knd d (merged kvs more) → h'.DictOf knd o more → Heap.SameBut d s.heap h' → Q () { s with heap := h' })
    (hsz : kvs.length + more.length ≤ sizeLine) :
    wpAny (model prog w) A (mergeMapping d (.ref o) false) Q E s := by
  obtain ⟨od, esd, epd, hod, hcd, hdd, hkd, hpd, hnd⟩ := id hd
  obtain ⟨oo, eso, epo, hoo, hco, hdo', hko, hpo, hno⟩ := id ho
  unfold mergeMapping
  refine wpAny_bind (wpAny_isInstance ho.typeIs isSubtype_dict_dict ?_)
  simp only [if_true]
  refine wpAny_bind (wpAny_specialOf ho.typeIs F.slot_dict_iter.lookup ?_)
  simp only [beq_self_eq_true, pure_bind, hoS, Bool.false_eq_true, if_false]
  have hlen : more.length = eso.size := by rw [← hpo.length]; simp
  have loop : wpAny (model prog w) A (do
      let l ← dictEntries o
      let epoch ← dictEpoch o
      forIn (List.range l.size) PUnit.unit fun i (_ : PUnit) => (do
          let l' ← dictEntries o
          match l'[i]? with
            | some e => do
              holding [e.key, e.val] (dictPut d e.hash e.key e.val)
              let ep' ← dictEpoch o
              if (ep' != epoch) = true then do
                  (unsupported "dict.changed-during-merge" : Sem PUnit)
                  pure (ForInStep.yield PUnit.unit)
                else pure (ForInStep.yield PUnit.unit)
            | _ => do
              (unsupported "dict.changed-during-merge" : Sem PUnit)
              pure (ForInStep.yield PUnit.unit) : Sem (ForInStep PUnit))
      pure ()) Q E s := by
    refine wpAny_bind (wpAny_dictEntries hoo hdo' ?_)
    refine wpAny_bind (wpAny_dictEpoch hoo hdo' ?_)
    refine wpAny_bind ?_
    refine wpAny_forIn_list _
      (fun rest _ s' => ∃ h' i, s' = { s with heap := h' } ∧ rest = List.range' i (eso.size - i) ∧ i ≤ eso.size ∧ h'.DictOf knd d (merged kvs (more.take i)) ∧ h'.get? o = some oo ∧ Heap.SameBut d s.heap h')
      _ ?_ ?_ _ _ ⟨s.heap, 0, rfl, by rw [List.range_eq_range']; simp, Nat.zero_le _, by simpa [merged] using hd, hoo, Heap.SameBut.refl _ _⟩
    · rintro x rest b s' ⟨h', i, rfl, hr, hi, hd', hoo', hs'⟩
      have hlt : i < eso.size := by
        rcases Nat.lt_or_ge i eso.size with h | h
        · exact h
        · rw [Nat.sub_eq_zero_of_le h] at hr; simp at hr
      obtain ⟨rfl, hrest⟩ : x = i ∧ rest = List.range' (i + 1) (eso.size - (i + 1)) := by
        have e : eso.size - i = (eso.size - (i + 1)) + 1 := by omega
        rw [e, List.range'_succ] at hr
        injection hr with h1 h2
        exact ⟨h1, h2⟩
      refine wpAny_bind (wpAny_dictEntries hoo' hdo' ?_)
      rw [Array.getElem?_eq_getElem hlt]
      obtain ⟨kv, hkv⟩ : ∃ kv, more[x]? = some kv := ⟨more[x]'(by rw [hlen]; exact hlt), List.getElem?_eq_getElem _⟩
      obtain ⟨k, v⟩ := kv
      obtain ⟨hkey, hval⟩ := hpo.get? (e := eso[x]) (by simp [hlt]) hkv
      obtain ⟨k', hkey', hhash⟩ := hko eso[x] (Array.getElem_mem hlt)
      obtain rfl : k' = k := knd.inj _ _ _ hkey' hkey
      show wpAny _ _ (holding [eso[x].key, eso[x].val] (dictPut d eso[x].hash eso[x].key eso[x].val) >>= _) _ _ _
      rw [hhash, hval]
      have hmx : (merged kvs (more.take x)).length ≤ sizeLine := by
        have e1 := merged_length_le kvs (more.take x)
        have e2 : (more.take x).length ≤ more.length := by rw [List.length_take]; omega
        omega
      refine wpAny_bind (wpAny_holding (wpAny_dictPut_pairs (hsz := hmx) hkey hd' fun h'' hd'' hs'' => ?_))
      have hoo'' : h''.get? o = some oo := (hs''.2 o (Ne.symm hdo)).trans hoo'
      refine wpAny_bind (wpAny_dictEpoch hoo'' hdo' ?_)
      rw [if_neg (by simp)]
      exact wpAny_pure ⟨h'', x + 1, rfl, hrest, hlt, by rw [merged_take_succ kvs more x (k', v) hkv]; exact hd'', hoo'', hs'.trans hs''⟩
    · rintro b s' ⟨h', i, rfl, hr, hi, hd', hoo', hs'⟩
      have hin : i = eso.size := by
        rcases Nat.lt_or_ge i eso.size with h | h
        · have e : eso.size - i = (eso.size - (i + 1)) + 1 := by omega
          rw [e, List.range'_succ] at hr; exact nomatch hr
        · exact Nat.le_antisymm hi h
      refine wpAny_pure (hQ h' ?_ ⟨oo, eso, epo, hoo', hco, hdo', hko, hpo, hno⟩ hs')
      rw [hin, ← hlen, List.take_length] at hd'; exact hd'
  refine wpAny_bind (wpAny_dictEntries hod hdd ?_)
  split
  · refine wpAny_bind (wpAny_dictEntries hoo hdo' ?_)
    rw [← Array.forIn_toList]
    refine wpAny_bind ?_
    refine wpAny_forIn_list _ (fun rest _ s' => s' = s ∧ ∀ e ∈ rest, e ∈ eso.toList) _ ?_ ?_ _ _ ⟨rfl, fun e h => h⟩
    · rintro e rest b s' ⟨rfl, hm⟩
      have nk : ∀ a, e.key ≠ .ref a := fun a => by
        obtain ⟨k, hk, _⟩ := hko e (Array.mem_toList_iff.mp (hm e (List.mem_cons_self ..)))
        exact nr k _ hk a
      split
      · rename_i a ea
        exact absurd ea (nk a)
      · exact wpAny_pure ⟨rfl, fun e' h => hm e' (List.mem_cons_of_mem _ h)⟩
    · rintro b s' ⟨rfl, _⟩
      exact loop
  · exact loop
theorem wpAny_display_star {m k v : Sem Value} {Q : Value → Shared → Prop} (nr : ∀ k key, knd.is k key = true → ∀ a, key ≠ .ref a)
    (h : wpAny (model prog w) A m (fun mv s1 => ∃ o kvs, mv = .ref o ∧ s.heap.objs.size ≠ o ∧ (o == sysModules) = false ∧ (s.heap.objs.size == sysModules) = false ∧ s1.heap.DictOf knd s.heap.objs.size [] ∧ s1.heap.DictOf knd o kvs ∧ kvs.length ≤ sizeLine ∧
      ∀ h1, h1.DictOf knd s.heap.objs.size kvs → h1.DictOf knd o kvs → Heap.SameBut s.heap.objs.size s1.heap h1 →
        wpAny (model prog w) A (evalPairs [(k, v)]) (fun vs s2 => ∃ rs kv2, Carries knd vs rs ∧ s2.heap.DictOf knd h1.objs.size [] ∧ s2.heap.DictOf knd s.heap.objs.size kv2 ∧ s.heap.objs.size ≠ h1.objs.size ∧ (h1.objs.size == sysModules) = false ∧ kv2.length + (merged [] rs).length ≤ sizeLine ∧
          ∀ h2, h2.DictOf knd h1.objs.size (merged [] rs) → Heap.SameBut h1.objs.size s2.heap h2 → ∀ h3, h3.DictOf knd s.heap.objs.size (merged kv2 (merged [] rs)) → h3.DictOf knd h1.objs.size (merged [] rs) → Heap.SameBut s.heap.objs.size h2 h3 →
            Q (.ref s.heap.objs.size) { s2 with heap := h3, toks := s2.toks + vs.length }) E { s1 with heap := h1.push { cls := .type "dict", data := .dict #[] } }) E
      { s with heap := s.heap.push { cls := .type "dict", data := .dict #[] } }) :
    wpAny (model prog w) A (dictDisplay [(none, m), (some k, v)]) Q E s := by
  unfold dictDisplay
  simp only [List.forIn_cons, List.forIn_nil, List.isEmpty_nil, List.isEmpty_cons, if_true, pure_bind, List.nil_append, List.length_cons, List.length_nil]
  refine wpAny_bind (wpAny_bind (wpAny_bind (wpAny_alloc (wpAny_bind (wpAny_holding (wpAny_mono h (fun mv s1 ⟨o, kvs, em, hdo, hoS, hDS, hd, ho, hz, hq⟩ => ?_) fun _ _ e => e))))))
  subst em
  have hnd : (kvs.map (·.1)).Nodup := by
    obtain ⟨_, _, _, _, _, _, _, _, hn⟩ := ho
    exact hn
  refine wpAny_bind (wpAny_onRaise (wpAny_tryCatch (wpAny_onRaise (wpAny_holding (wpAny_mergeMapping hdo hoS nr hd ho (fun h1 hd1 ho1 hs1 => ?_) (by simpa using hz))))))
  rw [merged_nil_of_nodup kvs hnd] at hd1
  refine wpAny_pure ?_
  refine wpAny_bind ?_
  simp only [List.nil_append, List.length_cons, List.length_nil, show ((0 + 1 : Nat) == 17) = false from rfl, Bool.false_eq_true, if_false]
  refine wpAny_pure ?_
  refine wpAny_pure ?_
  simp only [List.isEmpty_cons, Bool.false_eq_true, if_false]
  refine wpAny_bind ?_
  refine wpAny_bind (wpAny_holding (wpAny_subDict (knd := knd) (show 1 ≤ 15 by decide) (wpAny_mono (hq h1 hd1 ho1 hs1) (fun vs s2 ⟨rs, kv2, hc, hS, hD, hne, hSS, hz2, hq2⟩ => ⟨rs, hc, hS, fun h2 h2S h2s => ?_⟩) fun _ _ e => e)))
  refine wpAny_bind (wpAny_onRaise (wpAny_holding (wpAny_mergeMapping hne hSS nr (hD.sameBut h2s hne) h2S (fun h3 hd3 ho3 hs3 => ?_) hz2)))
  exact wpAny_pure (wpAny_pure (hq2 h2 h2S h2s h3 hd3 ho3 hs3))
end
end PySem

namespace Cl
open PySem PySem.Spec PyProof.Rows L2
theorem mix_nr {P : Program} {w : World} (k : L2.Key) (key : Value) (h : (mixKind P w).is k key = true) (a : Addr) : key ≠ .ref a := by
  rcases keyIs_shape h with ⟨i, t, _, rfl⟩ | ⟨x, t, _, rfl⟩ <;> exact fun z => nomatch z
/-- {**m, k: v} -/
def tDStar (tm : TE) (trs : List (TE × TE)) : TE := fun σ H Q => ∀ D, H D = none → tm σ (upd H D (.dK [])) fun x H1 => ∃ o kvs, x = .ref o ∧ H1 o = some (.dK kvs) ∧ o ≠ D ∧ H1 D = some (.dK []) ∧
  ∀ S, upd H1 D (.dK kvs) S = none → tPairs trs σ (upd (upd H1 D (.dK kvs)) S (.dK [])) fun ps H2 => H2 S = some (.dK []) ∧ H2 D = some (.dK kvs) ∧ ∃ rs : List (L2.Key × V), ps = rs.map (fun kv => (kV kv.1, kv.2)) ∧ kvs.length + rs.length ≤ 1000000 ∧
    Q (.ref D) (upd (upd H2 S (.dK (mergeK [] rs))) D (.dK (mergeK kvs (mergeK [] rs))))
theorem pe_dstar {X : Cx} {pos : Pos} {m k v : Expr} {tm tk tv : TE} (hm : PE X m tm) (h : PPs X pos [some k] [v] [(tk, tv)]) : PE X (.Dict [none, some k] [m, v] pos) (tDStar tm [(tk, tv)]) := by
  refine ⟨fun pins s σ H Q I q => ?_⟩
  have hn := I.hok.fresh (Nat.le_refl s.heap.objs.size)
  have I1 := I.laid (a := s.heap.objs.size) (o := .dK []) (h' := s.heap.push { cls := .type "dict", data := .dict #[] }) (t' := s.toks) (fun _ _ q => Heap.get?_push_of_some _ q) (Nat.le_refl _) (dk_empty s.heap I.big)
  rw [arm_eval_Dict]
  refine wpAny_bind (wpAny_standAt ?_)
  show wpAny _ _ (dictDisplay [(none, do let x ← eval m X.env; standAt pos; pure x), (some (eval k X.env), do let x ← eval v X.env; standAt pos; pure x)]) _ _ _
  refine wpAny_display_star (knd := mixKind X.prog X.w) mix_nr ?_
  refine wpAny_bind (thn (hm.run pins _ σ _ _ I1 (q _ hn)) fun u s1 ⟨x, H1, I2, rx, o, kvs, ex, e1, ne, e2, q1⟩ => ?_)
  subst ex
  obtain rfl : u = Value.ref o := rx
  refine wpAny_bind (wpAny_standAt (wpAny_pure ?_))
  obtain ⟨z1, oS, vs1, r1, d1⟩ := dk_of I2.hok e1
  obtain ⟨_, DS, vs0, r0, d0⟩ := dk_of I2.hok e2
  cases r0
  refine ⟨o, vs1, rfl, ne.symm, oS, DS, d0, d1, by rw [← r1.length]; exact z1, fun h1 hD ho hs => ?_⟩
  have heD : ∃ q, h1.get? s.heap.objs.size = some q := let ⟨q, _, _, hq, _⟩ := hD; ⟨q, hq⟩
  have I3 := d_write (t' := s1.toks) I2 (by rw [e2]; exact True.intro) hs heD (dk_new z1 DS r1 hD)
  have hn3 := I3.hok.fresh (Nat.le_refl h1.objs.size)
  have I4 := I3.laid (a := h1.objs.size) (o := .dK []) (h' := h1.push { cls := .type "dict", data := .dict #[] }) (t' := s1.toks) (fun _ _ q => Heap.get?_push_of_some _ q) (Nat.le_refl _) (dk_empty h1 I3.big)
  have neS : s.heap.objs.size ≠ h1.objs.size := fun y => by
    rw [← y, upd_same] at hn3
    cases hn3
  refine thn (h.run pins _ σ _ _ I4 (q1 _ hn3)) fun ws s2 ⟨ps, H2, I5, rel, eS, eD, rs, ep, lk, q2⟩ => ?_
  subst ep
  obtain ⟨vr, c, rk⟩ := carries_of (P := X.prog) (w := X.w) rel
  obtain ⟨_, SS, vs2, r2, d2⟩ := dk_of I5.hok eS
  cases r2
  obtain ⟨z3, _, vs3, r3, d3⟩ := dk_of I5.hok eD
  have rS := rk.merge (kvs := []) (vs := []) .nil
  have lS : (mergeK [] rs).length ≤ rs.length := by
    have := length_mergeK rs []
    rwa [List.length_nil, Nat.zero_add] at this
  have lD : (mergeK kvs (mergeK [] rs)).length ≤ kvs.length + rs.length := Nat.le_trans (length_mergeK _ _) (by omega)
  have szl : sizeLine = 16777216 := by decide
  refine ⟨vr, vs3, c, d2, d3, neS, SS, by
    have e1 := r3.length
    have e2 := rS.length
    omega, fun h2 h2S h2s h3 hd3 ho3 hs3 => ?_⟩
  have he2 : ∃ q, h2.get? h1.objs.size = some q := let ⟨q, _, _, hq, _⟩ := h2S; ⟨q, hq⟩
  have I6 := d_write (t' := s2.toks + ws.length) I5 (by rw [eS]; exact True.intro) h2s he2 (dk_new (kvs := mergeK [] rs) (by omega) SS rS h2S)
  have he3 : ∃ q, h3.get? s.heap.objs.size = some q := let ⟨q, _, _, hq, _⟩ := hd3; ⟨q, hq⟩
  have eD6 : upd H2 h1.objs.size (.dK (mergeK [] rs)) s.heap.objs.size = some (.dK kvs) := by rw [upd_ne neS]; exact eD
  have I7 := d_write (t' := s2.toks + ws.length) I6 (by rw [eD6]; exact True.intro) hs3 he3 (dk_new (kvs := mergeK kvs (mergeK [] rs)) (by omega) DS (rS.merge r3) hd3)
  exact ⟨.ref s.heap.objs.size, _, I7, rfl, q2⟩
end Cl

set_option maxHeartbeats 0
namespace Cl
open PySem PySem.Spec PyProof.Rows L2
/-! ### methods of own classes, their promises where no guard is set -/
structure MD (P : Program) (w : World) (K : PySem.W.Frag) (mg : Str → Option Value) (base : Heap) (k : Nat) (C : Addr) (m : Str) (ps : List Str) (sp : Sp) : Prop where
  ex : ∃ f fd, FnG P w K mg base CX0 k f fd ps sp ∧ Meth K C m f ∧ Binds K fd ps []
section
variable {X : Cx} {k : Nat} {f C : Addr} {fd : FuncData} {ps : List Str} {sp : Sp} {x m : Str} {p pos apos : Pos} {e o : Expr} {es : List Expr} {ta : TE} {t : TA}
theorem run_fnG {pins : List (Addr × Obj)} {σ : L2.St} {H : Hp} {s : Shared} {Q : VK} {us : List Value} {vs : List V} (F : FnG X.prog X.w X.K X.mg X.base CX0 k f fd ps sp) (hr : RG k X.A) (hb : Binds X.K fd ps [])
    (I : Inv X pins σ H s) (r : Vals vs us) (h : sp vs H Q E0) : wpAny (model X.prog X.w) X.A (call (.ref f) us) (EP X pins σ Q) X.xe s := by
  have r2 : Vals (vs ++ []) (us ++ []) := r.append .nil
  have h2 : sp (vs ++ []) H Q E0 := by rw [List.append_nil]; exact h
  have hl : (us ++ []).length = ps.length := by rw [← r2.length]; exact F.len _ _ _ _ h2
  refine wpAny_call (codeAny_mono (F.run X.A X.stack s H ⟨us, []⟩ (us ++ []) (vs ++ []) Q E0 hr I.env0 (hb s us I.kIn hl) r2 h2) fun r s' hq => ?_)
  match r, hq with
  | .error ee, hq => exact (pass0 (X := X)) pins σ H s ee s' I hq
  | .ok (.ret u), hq => exact I.after hq
  | .ok .next, hq => exact hq.elim
  | .ok .brk, hq => exact hq.elim
  | .ok .cont, hq => exact hq.elim
theorem methG {pl : Sem Bool} (D : MD X.prog X.w X.K X.mg X.base k C m ps sp) (c : Cls X.K C) (he : PE X o ta) (hr : RG k X.A) (ha : PA X (e :: es) t)
    (hst : starEach (e :: es) X.env = (false, eval e X.env) :: starEach es X.env := by rfl) (hpl : (backTo pos (starEach es X.env)).any (·.1) = false := by rfl)
    (ht : eval (.Call (.Attribute o m apos) (e :: es) [] pos) X.env = (do
      let ov ← eval o X.env
      standAt apos.atName
      let (f, first) ← holding [ov] (getMethod ov m pl)
      callWith pos f first (backTo pos (starEach (e :: es) X.env)) (backToKw pos (keywordEach [] X.env))) := by rfl) :
    PE X (.Call (.Attribute o m apos) (e :: es) [] pos) (tMeth C m sp [] E0 ta t) := by
  obtain ⟨f, fd, F, hm, hb⟩ := D.ex
  refine ⟨fun pins s σ H Q I h => ?_⟩
  refine PySem.W.methodCall_KW (pl := pl) (thn (he.run pins s σ H _ I h) fun u s1 ⟨x, H1, I1, rx, a, dx, fs, ex, ea, l, q⟩ => ?_) ht
  subst ex
  obtain rfl : u = Value.ref a := rx
  refine getmeth_ok I1 ea c hm l ?_
  refine PySem.W.callWith_K (first := [.ref a]) (h₀ := X.base) I.ok.mod.kin hm.kp (thn (ha.run pos pins s1 σ H1 _ I1 q) fun us s2 ⟨vs, H2, I2, r, q2⟩ => ⟨I2.kIn, ?_⟩) hst hpl
  exact run_fnG (us := .ref a :: us) (vs := .ref a :: vs) F hr hb I2 (.cons rfl r) (by have q2 : sp (V.ref a :: (vs ++ [])) H2 Q E0 := q2; rw [List.append_nil] at q2; exact q2)
theorem methG0 {pl : Sem Bool} (D : MD X.prog X.w X.K X.mg X.base k C m ps sp) (c : Cls X.K C) (he : PE X o ta) (hr : RG k X.A)
    (ht : eval (.Call (.Attribute o m apos) [] [] pos) X.env = (do
      let ov ← eval o X.env
      standAt apos.atName
      let (f, first) ← holding [ov] (getMethod ov m pl)
      callWith pos f first (backTo pos (starEach [] X.env)) (backToKw pos (keywordEach [] X.env))) := by rfl) :
    PE X (.Call (.Attribute o m apos) [] [] pos) (tMeth C m sp [] E0 ta tNil) := by
  obtain ⟨f, fd, F, hm, hb⟩ := D.ex
  refine ⟨fun pins s σ H Q I h => ?_⟩
  refine PySem.W.methodCall_KW (pl := pl) (thn (he.run pins s σ H _ I h) fun u s1 ⟨x, H1, I1, rx, a, dx, fs, ex, ea, l, q⟩ => ?_) ht
  subst ex
  obtain rfl : u = Value.ref a := rx
  refine getmeth_ok I1 ea c hm l ?_
  exact PySem.W.callWith_K0 (first := [.ref a]) I1.kIn hm.kp (run_fnG (us := [.ref a]) (vs := [.ref a]) F hr hb I1 (.cons rfl .nil) q)
/-- the class, as it is made by its name -/
structure CD (P : Program) (w : World) (K : PySem.W.Frag) (mg : Str → Option Value) (base : Heap) (k : Nat) (C : Addr) (x : Str) (ps : List Str) (sp : Sp) : Prop where
  ex : ∃ f fd, FnG P w K mg base CX0 k f fd ps sp ∧ Mk K C f ∧ Binds K fd ps [] ∧ mg x = some (.ref C)
theorem makeG (D : CD X.prog X.w X.K X.mg X.base k C x ps sp) (hr : RG (k + 1) X.A) (ha : PA X (e :: es) t) (hg : Gl X x := by rfl)
    (hdb : (x == ("__debug__" : Str)) = false := by decide) (he : starEach (e :: es) X.env = (false, eval e X.env) :: starEach es X.env := by rfl) (hpl : (backTo pos (starEach es X.env)).any (·.1) = false := by rfl) :
    PE X (.Call (.Name x p) (e :: es) [] pos) (tMake C sp [] E0 t) := by
  obtain ⟨f, fd, F, M, hb, hm⟩ := D.ex
  refine ⟨fun pins s σ H Q I h => ?_⟩
  refine wpAny_Call_Name_kw (ld_glob I hg hm ?_ hdb)
  refine PySem.W.callWith_K (h₀ := X.base) I.ok.mod.kin M.kp (thn (ha.run pos pins s σ H _ I h) fun us s1 ⟨vs, H1, I1, r, q⟩ => ⟨I1.kIn, ?_⟩) he hpl
  have hq := q (s1.heap.objs.size + 1) s1.heap.objs.size (I1.hok.fresh (Nat.le_succ _)) (I1.hok.fresh (Nat.le_refl _)) (Nat.ne_of_lt (Nat.lt_succ_self _))
  have I2 := Inv.made (C := C) I1
  have r2 : Vals (V.ref (s1.heap.objs.size + 1) :: (vs ++ [])) (Value.ref (s1.heap.objs.size + 1) :: (us ++ [])) := .cons rfl (r.append .nil)
  have hl : (Value.ref (s1.heap.objs.size + 1) :: us ++ []).length = ps.length := by
    have e := r2.length
    rw [F.len _ _ _ _ hq] at e
    exact e.symm
  refine wpAny_call (make_map (f := f) I1.kIn M.makes M.init (beq_iff_eq.mp M.fn) (codeAny_mono (F.run _ X.stack _ _ ⟨Value.ref (s1.heap.objs.size + 1) :: us, []⟩ (Value.ref (s1.heap.objs.size + 1) :: (us ++ [])) _ _ E0 ⟨hr.room.make C us [], hr.gd⟩
    (I2.env0.make C us []) (show BindsTo _ fd ⟨Value.ref (s1.heap.objs.size + 1) :: us, []⟩ (ps.zip (Value.ref (s1.heap.objs.size + 1) :: (us ++ []))) from hb _ (Value.ref (s1.heap.objs.size + 1) :: us) I2.kIn hl) r2 hq) fun r s' hq' => ?_))
  cases r with
  | error e => exact (pass0 (X := X)) pins σ _ _ e s' I2 hq'
  | ok fl =>
    cases fl with
    | ret u =>
      obtain ⟨v, H', I3, rv, ev, q3⟩ := I2.after hq'
      subst ev
      exact ⟨rv, ⟨V.ref (s1.heap.objs.size + 1), H', I3, rfl, q3⟩⟩
    | next => exact False.elim hq'
    | brk => exact False.elim hq'
    | cont => exact False.elim hq'
end
end Cl

set_option maxHeartbeats 0
/-! defs and methods that may raise, under promises where no guard is set; isinstance of a caught exception -/
namespace Cl
open PySem PySem.Spec PyProof.Rows L2
section
variable {P : Program} {w : World} {K : PySem.W.Frag} {mg : Str → Option Value} {base : Heap}
theorem okGX {x qual : Str} {st : Stmt} {f : Addr} {fd : FuncData} {N ps : List Str} {k : Nat} {sp : Sp}
    (F : Fun K x qual st f fd) (S : FnScope N ps (defScope st))
    (len : ∀ vs H Q E, sp vs H Q E → vs.length = ps.length)
    (body : ∀ (cdv : Value) (A : Around) (outer : List Env) (s : Shared) (H : Hp) (vs : List V) (Q : VK) (E : XK),
      RG k (A.deeper (envOfC qual (defScope st) s.heap.objs.size f cdv)) → sp vs H Q E →
      ∃ t, PSs (cxOf (L2.CX P w) P w K mg base N qual (defScope st) f cdv A outer s H E) (defBody st) t ∧
        t { nx := fun _ H' => Q .non H', rt := Q } (start N vs) H) :
    FnG P w K mg base (L2.CX P w) (k + 1) f fd ps sp := by
  obtain ⟨oc, od, kV, doc, pm, an, cdv, ct, osl, rfl, lk, hcd⟩ := F.ex
  constructor
  · exact len
  intro A outer s H args us vs Q E hr e0 hb r hsp
  have nvs := len _ _ _ _ hsp
  have keepB : ∀ b o, base.get? b = some o → s.heap.get? b = some o := fun b o z => (e0.bs b o z).1
  have inK : K.In s.heap := e0.mod.kin.keeps keepB
  have nolim : s.heap.NoLimit := e0.mod.nolimit.keeps keepB
  have kinds : ∀ y ∈ ps.zip us, (defScope st).names.lookup y.1 = some .local ∨
      ((defScope st).names.lookup y.1 = some .cell ∧
        ((cellsFrom (s.heap.objs.size + 1) (defScope st).names []).lookup y.1).isSome = true) := by
    rintro ⟨n, v⟩ hy
    rcases S.par n (List.of_mem_zip hy).1 with z | z
    · exact .inl z
    · exact .inr ⟨z, PySem.W.cellsFrom_some _ _ _ (.inl z)⟩
  refine codeAny_call_function hr.room.depth (inK _ _ lk) rfl S.co S.gen rfl
    (PySem.W.codeRec_of inK hcd) (hb _ _ _ _ ?_)
  refine wpAny_newFunctionEnv_cells S.kind kinds fun env he s1 x => ?_
  subst he
  refine ⟨nolim.keeps x.toInCall.keep, codeAny_func ?_⟩
  have hr2 : RG k (A.deeper (envOfC qual (defScope st) s.heap.objs.size f cdv)) := ⟨hr.room.deeper _, hr.gd⟩
  obtain ⟨t, ht, hq⟩ := body cdv A outer s H vs Q E hr2 hsp
  have I : Inv (cxOf (L2.CX P w) P w K mg base N qual (defScope st) f cdv A outer s H E) [] (start N vs) H s1 :=
    inv_start S hr.room.hd e0 nvs r x
  refine wpAny_mono (ht.run [] s1 (start N vs) H _ I hq) (fun fl s' hs => ?_) fun _ _ z => z
  match fl, hs with
  | .ret u, ⟨v, σ', H', J, rv, q⟩ => exact ⟨v, H', J.os, J.bare, J.base, J.hok, rv, q⟩
  | .next, ⟨σ', H', J, q⟩ => exact ⟨V.non, H', J.os, J.bare, J.base, J.hok, rfl, q⟩
  | .brk, ⟨_, _, _, q⟩ => exact q.elim
  | .cont, ⟨_, _, _, q⟩ => exact q.elim
end
/-- a method that may raise -/
structure MDX (P : Program) (w : World) (K : PySem.W.Frag) (mg : Str → Option Value) (base : Heap) (k : Nat) (C : Addr) (m : Str) (ps : List Str) (sp : Sp) : Prop where
  ex : ∃ f fd, FnG P w K mg base (L2.CX P w) k f fd ps sp ∧ Meth K C m f ∧ Binds K fd ps []
section
variable {X : Cx} {k : Nat} {f C : Addr} {fd : FuncData} {ps : List Str} {sp : Sp} {x m : Str} {p pos apos : Pos} {e o : Expr} {es : List Expr} {ta : TE} {t : TA} {W : WX}
theorem run_fnGX {pins : List (Addr × Obj)} {σ : L2.St} {H : Hp} {s : Shared} {Q : VK} {us : List Value} {vs : List V} (F : FnG X.prog X.w X.K X.mg X.base (L2.CX X.prog X.w) k f fd ps sp) (hr : RG k X.A) (hb : Binds X.K fd ps []) (tk : Takes X W)
    (I : Inv X pins σ H s) (r : Vals vs us) (h : sp vs H Q (WE W σ)) : wpAny (model X.prog X.w) X.A (call (.ref f) us) (EP X pins σ Q) X.xe s := by
  have r2 : Vals (vs ++ []) (us ++ []) := r.append .nil
  have h2 : sp (vs ++ []) H Q (WE W σ) := by rw [List.append_nil]; exact h
  have hl : (us ++ []).length = ps.length := by rw [← r2.length]; exact F.len _ _ _ _ h2
  refine wpAny_call (codeAny_mono (F.run X.A X.stack s H ⟨us, []⟩ (us ++ []) (vs ++ []) Q (WE W σ) hr I.env0 (hb s us I.kIn hl) r2 h2) fun r s' hq => ?_)
  match r, hq with
  | .error ee, hq => exact passAt tk σ pins H s ee s' I hq
  | .ok (.ret u), hq => exact I.after hq
  | .ok .next, hq => exact hq.elim
  | .ok .brk, hq => exact hq.elim
  | .ok .cont, hq => exact hq.elim
def tMethX (C : Addr) (m : Str) (sp : Sp) (W : WX) (ta : TE) (t : TA) : TE := fun σ H Q => ta σ H fun x H1 => ∃ a dx fs, x = .ref a ∧ H1 a = some (.ins C dx fs) ∧ fs.lookup m = none ∧ t σ H1 fun vs H2 => sp (x :: vs) H2 Q (WE W σ)
theorem methGX {pl : Sem Bool} (D : MDX X.prog X.w X.K X.mg X.base k C m ps sp) (c : Cls X.K C) (tk : Takes X W) (he : PE X o ta) (hr : RG k X.A) (ha : PA X (e :: es) t)
    (hst : starEach (e :: es) X.env = (false, eval e X.env) :: starEach es X.env := by rfl) (hpl : (backTo pos (starEach es X.env)).any (·.1) = false := by rfl)
    (ht : eval (.Call (.Attribute o m apos) (e :: es) [] pos) X.env = (do
      let ov ← eval o X.env
      standAt apos.atName
      let (f, first) ← holding [ov] (getMethod ov m pl)
      callWith pos f first (backTo pos (starEach (e :: es) X.env)) (backToKw pos (keywordEach [] X.env))) := by rfl) :
    PE X (.Call (.Attribute o m apos) (e :: es) [] pos) (tMethX C m sp W ta t) := by
  obtain ⟨f, fd, F, hm, hb⟩ := D.ex
  refine ⟨fun pins s σ H Q I h => ?_⟩
  refine PySem.W.methodCall_KW (pl := pl) (thn (he.run pins s σ H _ I h) fun u s1 ⟨x, H1, I1, rx, a, dx, fs, ex, ea, l, q⟩ => ?_) ht
  subst ex
  obtain rfl : u = Value.ref a := rx
  refine getmeth_ok I1 ea c hm l ?_
  refine PySem.W.callWith_K (first := [.ref a]) (h₀ := X.base) I.ok.mod.kin hm.kp (thn (ha.run pos pins s1 σ H1 _ I1 q) fun us s2 ⟨vs, H2, I2, r, q2⟩ => ⟨I2.kIn, ?_⟩) hst hpl
  exact run_fnGX (us := .ref a :: us) (vs := .ref a :: vs) F hr hb tk I2 (.cons rfl r) q2
end
/-! ### isinstance(e, ..), e the exception that the suite holds -/
def rIsV (K : PySem.W.Frag) (cls : Value) (d : Option Addr) (a : Addr) : List V → Hp → VK → Prop := fun xs H Q => ∃ (D : Addr) (c : V) (u : Value) (b : Bool), cls = .ref D ∧ d = none ∧ ExcC K D ∧ xs = [.ref a, c] ∧ ClsV c u ∧ PySem.W.kitOne K (.ref D) u = some b ∧ Q (.bl b) H
def rIsVT (K : PySem.W.Frag) (cls : Value) (d : Option Addr) (a : Addr) : List V → Hp → VK → Prop := fun xs H Q => ∃ (D : Addr) (tp : Addr) (cs : List V) (us : List Value) (b : Bool), cls = .ref D ∧ d = none ∧ ExcC K D ∧ xs = [.ref a, .ref tp] ∧ H tp = some (.tup cs) ∧ Paired ClsV cs us ∧ PySem.W.kitAny K (.ref D) us = some b ∧ Q (.bl b) H
section
variable {X : Cx} {a : Addr} {cls : Value} {d : Option Addr} {oe : Obj} {pn : List (Addr × Obj)}
theorem inst_at {pins : List (Addr × Obj)} {σ : L2.St} {H : Hp} {s : Shared} {D : Addr} (I : Inv (X.suite a ((a, oe) :: pn)) pins σ H s) (hz : Zc (.ref D) none oe) (hf : ∃ vs, oe.data = .fields vs) : PySem.W.InstAt s.heap a oe D none := by
  obtain ⟨hget, _⟩ := I.pin (a, oe) (List.mem_append.mpr (.inl List.mem_cons_self))
  obtain ⟨vs, hv⟩ := hf
  obtain ⟨oc, od, oda, osl⟩ := oe
  obtain ⟨h1, h2⟩ := hz
  dsimp only at h1 h2 hv
  subst h1 h2 hv
  exact ⟨hget, rfl, rfl, trivial⟩
theorem call_isV (hz : Zc cls d oe) (hf : ∃ vs, oe.data = .fields vs) : CallR (X.suite a ((a, oe) :: pn)) (.builtin "isinstance") (rIsV X.K cls d a) := by
  intro pins s σ H xs us Q I r h
  obtain ⟨D, c, u, b, rfl, rfl, C, rfl, k, e, q⟩ := h
  obtain ⟨u1, u2, rfl, rx, r2⟩ := vals2 r
  have e2 := k.eq r2
  subst e2
  cases rx
  exact PySem.W.kia_one (PySem.W.handS_kitx_exc C.hg C.hk C.hs C.hd C.ha C.hn C.ht C.hm) I.kIn (inst_at I hz hf) e (fun z => nomatch z) fun tk => ⟨.bl b, H, I.kept (t' := tk) fun _ _ z => z, rfl, q⟩
theorem call_isVT (hz : Zc cls d oe) (hf : ∃ vs, oe.data = .fields vs) : CallR (X.suite a ((a, oe) :: pn)) (.builtin "isinstance") (rIsVT X.K cls d a) := by
  intro pins s σ H xs us Q I r h
  obtain ⟨D, tp, cs, ws, b, rfl, rfl, C, rfl, hT, k, e, q⟩ := h
  obtain ⟨u1, u2, rfl, rx, r2⟩ := vals2 r
  cases (show u2 = Value.ref tp from r2)
  cases rx
  obtain ⟨_, its, rv, o, h1, h2, n, h3⟩ := (show ObjOk X.prog X.w H s.heap tp (.tup cs) from I.hok tp _ hT)
  have e3 := ClsV.all k rv
  subst e3
  obtain ⟨oc, od, dt, sl⟩ := o
  simp only at h2 h3
  subst h2 h3
  exact PySem.W.kia_tup (PySem.W.handS_kitx_exc C.hg C.hk C.hs C.hd C.ha C.hn C.ht C.hm) I.kIn (inst_at I hz hf) h1 e (fun z => nomatch z) fun tk => ⟨.bl b, H, I.kept (t' := tk) fun _ _ z => z, rfl, q⟩
end
end Cl

set_option maxHeartbeats 2000000
/-! a raise out of a list comprehension's element: the element calls a def that may raise -/
namespace Cl
open PySem PySem.Spec PyProof.Rows L2
section
variable {X : Cx} {W : WX} {pins : List (Addr × Obj)} {σ : L2.St} {H3 : Hp} {s3 : Shared}
/-- an exception out of a call within the block: noted, the block let go, in the def's own air -/
theorem blkGo (tk : Takes X W) (hs : X.stack = X.env :: X.outer) (hf : X.env.frame = some X.env.locals) (I3 : Inv X pins σ H3 s3) {fp : List Addr} (f3 : ∀ b ∈ fp, FpOk X pins H3 b ∧ b < s3.heap.objs.size) {sc : Scope} {ce : Env}
    (hL : ce.locals = s3.heap.objs.size) (hce : ce.frame = X.env.frame) {ps : List (Addr × Obj)} {τ : L2.St} {H5 : Hp} {s5 : Shared} (I5 : Inv (X.blk s3 H3 sc ce fp) ps τ H5 s5) {u : Value} {s' : Shared} (c : L2.CX X.prog X.w X.stack H5 s5 (fun cls d H => W cls d σ H) u s') :
    notedBy (model X.prog X.w) X.A ce (PySem.CompFails (model X.prog X.w) X.A X.xe ce) u s' := by
  obtain ⟨a, B, H', cls, d, rfl, fl, hok, ub, na, os, ag, hE⟩ := c
  have hA : X.A.frames = some (X.env :: X.outer) := by rw [I3.ok.frames, hs]
  show wpAny _ _ (noteFrame (.ref a) ce) _ _ s'
  rw [PySem.noteFrame_env _ hce]
  have fl' := fl
  rw [hs] at fl'
  refine HandSPX.looks_onZ Zc.steady hA hf fl' fun h1 hh up => ?_
  obtain ⟨m, hn, _⟩ := I5.loc
  have hC0 : H5 ce.locals = none := I5.free
  obtain ⟨oC, es, ep, eC, rC⟩ := hn
  have low : ∀ b o, s3.heap.get? b = some o → b ≠ ce.locals := fun b o e z => by
    have := Heap.lt_size e
    rw [z, hL] at this
    exact Nat.lt_irrefl _ this
  have nC : ce.locals ∉ frs X.stack := fun z => by
    obtain ⟨_, o, e, _⟩ := I3.stack.mem z
    exact low _ _ e rfl
  have bC : B.get? ce.locals = some oC := ub.keep _ _ eC hC0 nC
  have hC' : H' ce.locals = none := ub.free _ _ eC hC0
  obtain ⟨b1, b0, f1, oe, vs, T, oT, ts, he, hz, hd, hv, hnT, hTe, hT, hdT, h3⟩ := hh
  have h1C : h1.get? ce.locals = some oC := b1 _ _ bC
  refine ⟨m, ⟨oC, es, ep, h1C, rC⟩, fun h2 m2 hn2 sb => ?_⟩
  obtain ⟨B2, g1, g2⟩ := restrict h2 fun b => (B.get? b).isSome
  have kB : ∀ b o, b ≠ ce.locals → B.get? b = some o → B2.get? b = some o := fun b o n e => by
    rw [g1 b (by simp [e])]
    exact (sb.2 b n).trans (b1 b o e)
  have nB : ∀ b, B.get? b = none → B2.get? b = none := fun b e => g2 b (by simp [e])
  have st2 : B2.StaysIn h2 := fun b o e => by
    cases q : (B.get? b).isSome with
    | true => rw [g1 b q] at e; exact e
    | false => rw [g2 b q] at e; cases e
  have naC : a ≠ ce.locals := fun z => by rw [z, bC] at b0; cases b0
  have nTC : T ≠ ce.locals := fun z => by rw [z, bC] at hnT; cases hnT
  have tr : HandSPX.TracedZ h2 B2 a (Zc cls d) (rawInt X.env.locals) := ⟨oe, vs, T, oT, ts, (sb.2 a naC).trans he, hz, hd, hv, nB _ hnT, hTe, (sb.2 T nTC).trans hT, hdT, h3⟩
  have ff : h2.FunFrames B2 (X.env :: X.outer) := funFrames_none (Heap.FunFrames.sameBut sb hn2 f1) fun L z => nB L (f1.mem z).1
  unfold PySem.passOn
  refine wpAny_bind (wpAny_field ((sb.2 a naC).trans he) hd hv ?_)
  rw [if_neg (show ¬ (Value.ref T == Value.none) = true from by simp), hce, hf]
  refine wpAny_bind (HandSPX.setFlight_onZ ⟨st2, nB _ b0, ff, tr⟩ fun h4 hh4 up4 => wpAny_throw ?_)
  obtain ⟨G, G1, G2⟩ := restrict h4 fun b => (B2.get? b).isSome || decide (b ∈ frs X.stack)
  have gB : ∀ b o, B2.get? b = some o → G.get? b = some o := fun b o e => by
    rw [G1 b (by simp [e])]
    exact hh4.1 b o e
  have gF : ∀ b, b ∈ frs X.stack → G.get? b = h4.get? b := fun b z => G1 b (by simp [z])
  have gO : ∀ b o, G.get? b = some o → h4.get? b = some o ∧ ((B2.get? b).isSome = true ∨ b ∈ frs X.stack) := fun b o e => by
    cases q : ((B2.get? b).isSome || decide (b ∈ frs X.stack)) with
    | false => rw [G2 b q] at e; cases e
    | true => exact ⟨by rw [← G1 b q]; exact e, by simpa [Bool.or_eq_true] using q⟩
  have base : Un (frs X.stack) fp H3 H5 s3.heap s5.heap := I5.base
  refine tk _ _ ⟨a, B2, { s' with heap := G }, pins, σ, H', cls, d, rfl, ?_, fun b o e nb => ?_, Heap.UpToSlots.of_keeps fun b o e => (gO b o e).1, ?_, na, rfl, ag, hE⟩
  · refine I3.call' (ch := fp) (os.trans I5.os) ⟨fun b o e n hb hc => ?_, fun b o e n hb hc => ?_, fun b o e n hc => ?_, fun b o e hc => ?_, fun b xs e => ub.tups b xs (base.tups b xs e), fun b o xs e => ub.frzs b o xs (base.frzs b o xs e), fun b qs e => ?_⟩ (fun b o e => ?_) ag fun b hb => let f := (f3 b hb).1; ⟨f.2.2.2.1, f.2.1, f.2.2.2.2.1, f.2.2.2.2.2⟩
    · exact gB b o (kB b o (low b o e) (ub.keep b o (base.keep b o e n hb hc) (base.free b o e n hc) hb))
    · obtain ⟨_, o', e', nf⟩ := I3.stack.mem hb
      rw [e] at e'
      cases e'
      obtain ⟨l1, e1⟩ := base.slot b o e n hb hc
      obtain ⟨l2, e2⟩ := ub.slot b _ e1 hb
      obtain ⟨l3, e3⟩ := up b _ e2 nf
      obtain ⟨l4, e4⟩ := up4 b _ ((sb.2 b (low b o e)).trans e3) nf
      exact ⟨l4, (gF b hb).trans e4⟩
    · obtain ⟨o5, e5⟩ := base.there b o e hc
      exact ub.free b o5 e5 (base.free b o e n hc)
    · obtain ⟨o5, e5⟩ := base.there b o e hc
      by_cases hb : b ∈ frs X.stack
      · obtain ⟨_, o4, e4, _⟩ := hh4.2.2.1.mem (show b ∈ frs (X.env :: X.outer) by rw [← hs]; exact hb)
        exact ⟨o4, (gF b hb).trans e4⟩
      · obtain ⟨o6, e6⟩ := ub.there b o5 e5 hb
        exact ⟨o6, gB b o6 (kB b o6 (low b o e) e6)⟩
    · obtain ⟨p1, e1⟩ := base.tbls b qs e
      obtain ⟨p2, e2⟩ := ub.tbls b _ e1
      exact ⟨p1 ++ p2, by rw [e2, Array.append_assoc]⟩
    · refine (hok b o e).stay (fun z v hz r => gB z v (kB z v (fun y => ?_) r)) (fun _ q => q) fun _ _ q => q
      rw [y, hC'] at hz
      rcases hz with hz | hz
      · rw [← hz, hC'] at e
        cases e
      · cases hz
  · obtain ⟨e4, z⟩ := gO b o e
    rcases z with z | z
    · obtain ⟨o', q⟩ := Option.isSome_iff_exists.mp z
      have := hh4.1 b o' q
      rw [e4] at this
      cases this
      exact q
    · exact absurd z nb
  · rw [hs]
    exact .inr (.inr hh4)
/-- as tLc, its element may raise -/
def tLcX (wi : TI) (g : TG) (tt : TT) (te : L2.St → TE) (vs : List Nat) : TE := fun σ H Q => tLc wi g tt (te σ) vs σ H Q
theorem mono3 {α : Type} {M : Model} {A : Around} {m : Sem α} {Q Q' : α → Shared → Prop} {E : Value → Shared → Prop} {s : Shared} (h : wpAny M A m Q (fun _ _ => False) s) (k : ∀ a s, Q a s → Q' a s) : wpAny M A m Q' E s := wpAny_mono h k fun _ _ z => z.elim
theorem pe_lcX {elt tg iter : Expr} {ifs : List Expr} {scope : Scope} {own : List (Str × Nat)} {pos : Pos} {wi : TI} {g : TG} {tt : TT} {te : L2.St → TE} (hs : X.stack = X.env :: X.outer) (hf : X.env.frame = some X.env.locals) (tk : Takes X W)
    (hc : X.calm = true) (hN : X.N.Nodup) (hi : PI X tg iter wi) (ok : BlkOk X.N X.env.scope scope own)
    (hg : ∀ (z : Shared) (H : Hp) (C : Addr) (cl : List (Str × Addr)) (fp : List Addr), PG (X.blk z H scope (compEnvC scope cl C X.env) fp) tg g)
    (ht : ∀ (z : Shared) (H : Hp) (C : Addr) (cl : List (Str × Addr)) (fp : List Addr), PTs (X.blk z H scope (compEnvC scope cl C X.env) fp) ifs tt)
    (he : ∀ (z : Shared) (H : Hp) (C : Addr) (cl : List (Str × Addr)) (fp : List Addr) (σ : L2.St) (xe : Value → Shared → Prop), (∀ τ, PassesAt (L2.CX X.prog X.w) ((X.blk z H scope (compEnvC scope cl C X.env) fp).wish xe) τ fun cls d H => W cls d σ H) → PE ((X.blk z H scope (compEnvC scope cl C X.env) fp).wish xe) elt (te σ))
    (hz : ∀ x, foldedSetIterable iter X.env x = pure x := by intro _; rfl) : PE X (.ListComp elt [⟨tg, iter, ifs, 0⟩] scope pos) (tLcX wi g tt te (own.map (·.2))) := by
  refine ⟨fun pins s σ H Q I h => ?_⟩
  rw [eval_ListComp]
  have clo : ∀ y ∈ scope.names, y.2 = .free → ∃ c, X.env.cells.lookup y.1 = some c := fun y hy e => I.ok.has _ (ok.free y hy e)
  refine PySem.comprehension_at (use := none) rfl hz (closure_ok clo) ok.kind (fun y hy e => by rw [ok.uniq y hy, e]) (thn (hi.run pins s σ H _ I h) fun xv s1 hx => thn hx fun itv s2 h2 => ?_)
  obtain ⟨it, fp, tn, J, H2, e, I2, T, st2, f2, q⟩ := h2
  subst e
  refine wpAny_newObj_type (newEnv_comp ?_) (Nat.zero_le _)
  obtain ⟨D, hD⟩ : ∃ D, D = s2.heap.objs.size := ⟨_, rfl⟩
  rw [← hD]
  have nD : H2 D = none := I2.hok.fresh (Nat.le_of_eq hD.symm)
  obtain ⟨M, ⟨m0, w0⟩, turn⟩ := q D nD
  obtain ⟨s3, hs3⟩ : ∃ z : Shared, z = { s2 with heap := s2.heap.push { cls := .type "list", data := .seq ([] : List Value).toArray } } := ⟨_, rfl⟩
  have I3 : Inv X pins σ (upd H2 D (.lst [])) s3 := by
    rw [hs3]
    refine I2.laid (t' := s2.toks) (fun b o e => Heap.get?_push_of_some _ e) (Nat.le_of_eq hD.symm) ⟨Nat.zero_le _, [], 0, .nil, ?_⟩
    rw [hD]
    exact Heap.get?_push_size _ rfl
  have f3 : ∀ b ∈ fp, FpOk X pins (upd H2 D (.lst [])) b ∧ b < s3.heap.objs.size := fun b hb => by
    obtain ⟨o, e, _⟩ := T.obj _ _ st2 b hb
    have lt := Heap.lt_size e
    refine ⟨⟨?_, (f2 b hb).2⟩, ?_⟩
    · rw [upd_ne (fun z => by rw [z, hD] at lt; exact Nat.lt_irrefl _ lt)]
      exact (f2 b hb).1
    · rw [hs3]
      show b < (s2.heap.push _).objs.size
      rw [Heap.size_push]
      exact Nat.lt_succ_of_lt lt
  have st3 : tn 0 s3.heap := T.keep _ _ _ st2 fun b _ o e => by rw [hs3]; exact Heap.get?_push_of_some _ e
  have I4 := block_start I3 ok hN f3
  rw [← hs3]
  obtain ⟨ce, hce⟩ : ∃ ce, ce = compEnvC scope (cellsFrom (s3.heap.objs.size + 1) scope.names (cloFrom X.env.cells scope.names [])) s3.heap.objs.size X.env := ⟨_, rfl⟩
  have pg := hg s3 (upd H2 D (.lst [])) s3.heap.objs.size (cellsFrom (s3.heap.objs.size + 1) scope.names (cloFrom X.env.cells scope.names [])) fp
  have pt := ht s3 (upd H2 D (.lst [])) s3.heap.objs.size (cellsFrom (s3.heap.objs.size + 1) scope.names (cloFrom X.env.cells scope.names [])) fp
  have pe := he s3 (upd H2 D (.lst [])) s3.heap.objs.size (cellsFrom (s3.heap.objs.size + 1) scope.names (cloFrom X.env.cells scope.names [])) fp σ
    (notedBy (model X.prog X.w) X.A ce (PySem.CompFails (model X.prog X.w) X.A X.xe ce))
  rw [← hce] at I4 pg pt pe
  show codeAny _ _ (.compStart (.ListComp elt [⟨tg, iter, ifs, 0⟩] scope pos) 0 (.ref it) (.ref D) (compEnvC scope (cellsFrom (s3.heap.objs.size + 1) scope.names (cloFrom X.env.cells scope.names [])) s3.heap.objs.size X.env)) (PySem.compEnds (model X.prog X.w) X.A X.xe none (EP X pins σ Q) (.ref D) (compEnvC scope (cellsFrom (s3.heap.objs.size + 1) scope.names (cloFrom X.env.cells scope.names [])) s3.heap.objs.size X.env)) { s3 with heap := pushCells (s3.heap.push { cls := .type "dict", data := .dict #[] }) scope.names }
  rw [← hce]
  have cL : ce.locals = s3.heap.objs.size := by rw [hce]; rfl
  have cF : ce.frame = X.env.frame := by rw [hce]; rfl
  have pe := pe fun τ ps H5 s5 e s' I5 c => blkGo tk hs hf I3 f3 cL cF (I5.unwish) c
  obtain ⟨H3, hH3⟩ : ∃ H3, H3 = upd H2 D (.lst []) := ⟨_, rfl⟩
  rw [← hH3] at I3 I4 pg pt pe w0 f3
  obtain ⟨s4, hs4⟩ : ∃ z : Shared, z = { s3 with heap := pushCells (s3.heap.push { cls := .type "dict", data := .dict #[] }) scope.names } := ⟨_, rfl⟩
  rw [← hs4] at I4 ⊢
  have st4 : tn 0 s4.heap := T.keep _ _ _ st3 fun b _ o e => by rw [hs4]; exact pushCells_keeps _ _ _ _ (Heap.get?_push_of_some _ e)
  have fpo : ∀ {τ : L2.St} {H' : Hp} {s' : Shared}, Inv (X.blk s3 H3 scope ce fp) [] τ H' s' → (∀ b ∈ fp, H' b = none) → ∀ b ∈ fp, FpOk (X.blk s3 H3 scope ce fp) [] H' b := fun {τ H' s'} I' hn b hb =>
    ⟨hn b hb, (I'.ok.exf b hb).1, I'.ok.exfs b hb, .inl hb, fun x c e => (I'.ok.exf b hb).2 x c e, fun p hp => by cases (show p ∈ ([] : List (Addr × Obj)) from hp)⟩
  have loop : codeAny (model X.prog X.w) X.A (.compLoop (.ListComp elt [⟨tg, iter, ifs, 0⟩] scope pos) 0 (.ref it) (.ref D) ce) (PySem.compEnds (model X.prog X.w) X.A X.xe none (EP X pins σ Q) (.ref D) ce) s4 := by
    refine compLoop_any (fun n z => ∃ i H', Inv (X.blk s3 H3 scope ce fp) [] (wipe σ (own.map (·.2))) H' z ∧ tn i z.heap ∧ (∀ b ∈ fp, H' b = none) ∧ M i n H') ?_ m0 ⟨0, H3, I4, st4, fun b hb => (f3 b hb).1.1, w0⟩
    rintro n s5 ⟨i, H5, I5, st5, n5, w5⟩
    rcases turn i n H5 w5 with ⟨stop, qq⟩ | ⟨go, Nx, hNx, step⟩
    · refine mono3 (T.done (X.blk s3 H3 scope ce fp) rfl rfl rfl hc i [] s5 _ H5 (fun _ _ => False) I5 (fpo I5 n5) st5 stop) fun r s6 ⟨hr, I6⟩ => ?_
      subst hr
      obtain ⟨m, hn, _⟩ := I6.loc
      have I7 : Inv X pins σ H5 s6 := I3.call' (ch := fp) I6.os I6.base I6.hok I6.bare fun b hb => let f := (f3 b hb).1; ⟨f.2.2.2.1, f.2.1, f.2.2.2.2.1, f.2.2.2.2.2⟩
      have nC : H5 ce.locals = none := I6.free
      obtain ⟨f0, f1, f2', f4, f5, f6⟩ := I3.fpOk (b := ce.locals) (Nat.le_of_eq cL.symm) nC
      exact ⟨m, hn, fun h'' sb => ⟨.ref D, H5, I7.turned (t' := s6.toks) (fun b o hb e => (sb.2 b hb).trans e) f0 f1 f4 f5 f6, rfl, qq⟩⟩
    · refine mono3 (T.item (X.blk s3 H3 scope ce fp) rfl rfl rfl hc i [] s5 _ H5 (fun _ _ => False) I5 (fpo I5 n5) st5 go) fun r s6 ⟨u, hr, h6⟩ => ?_
      subst hr
      refine mono3 h6 fun _ s7 ⟨x, H7, I7, r7, y7, st7, n7⟩ => ?_
      have J7 := I7.pinned (fpo I7 n7) (T.obj _ _ st7)
      refine mono3 (pg.run _ s7 _ H7 x u _ J7 r7 (step x H7 y7)) fun _ s8 ⟨σ8, H8, I8, hw8, q8⟩ => ?_
      refine mono3 (pt.run _ s8 σ8 H8 _ I8 q8) fun b s9 ⟨H9, I9, q9⟩ => ?_
      have fin : ∀ {z : Shared} {H' : Hp}, Inv (X.blk s3 H3 scope ce fp) ([] ++ pinsAt fp s7.heap) σ8 H' z → Nx H' → ∃ m, m < n ∧ ∃ i H', Inv (X.blk s3 H3 scope ce fp) [] (wipe σ (own.map (·.2))) H' z ∧ tn i z.heap ∧ (∀ b ∈ fp, H' b = none) ∧ M i m H' := fun {z H'} K nx => by
        obtain ⟨m', hm, w'⟩ := hNx H' nx
        have pn : ∀ b ∈ fp, ∀ o, s7.heap.get? b = some o → z.heap.get? b = some o ∧ H' b = none := fun b hb o e =>
          let y := K.pin (b, o) (List.mem_append_right _ (List.mem_append_right _ (mem_pinsAt hb e)))
          ⟨y.1, y.2.1⟩
        have ln : (wipe σ (own.map (·.2))).length = σ8.length := by rw [← hw8, wipe_length]
        refine ⟨m', hm, i + 1, H', (K.unpinned (pins := [])).weak ln (fun j v e => ?_), T.keep _ _ _ st7 fun b hb o e => (pn b hb o e).1, fun b hb => ?_, w'⟩
        · rw [← hw8] at e
          exact (wipe_some e).1
        · obtain ⟨o, e, _⟩ := T.obj _ _ st7 b hb
          exact (pn b hb o e).2
      cases b with
      | false => exact fin I9 q9
      | true =>
        refine wpAny_mono (pe.run _ s9 σ8 H9 _ (I9.wish _) q9) (fun z s10 ⟨yv, H10, I10, r10, acc, hD10, hz10, nx⟩ => ?_) fun _ _ z => z
        exact app_ok (X := X.blk s3 H3 scope ce fp) I10.unwish hD10 hz10 r10 fun s11 I11 => fin I11 nx
  exact codeAny_compStart_list loop (T.self X.A 0 _ _ _ st4 loop)
end
end Cl

set_option maxHeartbeats 2000000
/-! calls of defs that may raise -/
namespace Cl
open PySem PySem.Spec PyProof.Rows L2
/-- a def that may raise -/
structure DefX (P : Program) (w : World) (K : PySem.W.Frag) (mg : Str → Option Value) (base : Heap) (k : Nat) (x : Str) (ps : List Str) (sp : Sp) : Prop where
  ex : ∃ f fd, FnG P w K mg base (L2.CX P w) k f fd ps sp ∧ mg x = some (.ref f) ∧ PySem.W.keepIn K (.ref f) = true ∧ Binds K fd ps []
section
variable {X : Cx} {k : Nat} {f : Addr} {fd : FuncData} {ps : List Str} {sp : Sp} {x : Str} {p pos : Pos} {e : Expr} {es : List Expr} {t : TA} {W : WX}
theorem run_fnPX {EE : XK} {pins : List (Addr × Obj)} {σ : L2.St} {H : Hp} {s : Shared} {Q : VK} {us : List Value} {vs : List V} (F : FnG X.prog X.w X.K X.mg X.base (L2.CX X.prog X.w) k f fd ps sp) (hr : RG k X.A) (hb : Binds X.K fd ps []) (hx : PassesAt (L2.CX X.prog X.w) X σ EE)
    (I : Inv X pins σ H s) (r : Vals vs us) (h : sp vs H Q EE) : wpAny (model X.prog X.w) X.A (call (.ref f) us) (EP X pins σ Q) X.xe s := by
  have r2 : Vals (vs ++ []) (us ++ []) := r.append .nil
  have h2 : sp (vs ++ []) H Q EE := by rw [List.append_nil]; exact h
  have hl : (us ++ []).length = ps.length := by rw [← r2.length]; exact F.len _ _ _ _ h2
  refine wpAny_call (codeAny_mono (F.run X.A X.stack s H ⟨us, []⟩ (us ++ []) (vs ++ []) Q EE hr I.env0 (hb s us I.kIn hl) r2 h2) fun r s' hq => ?_)
  match r, hq with
  | .error ee, hq => exact hx pins H s ee s' I hq
  | .ok (.ret u), hq => exact I.after hq
  | .ok .next, hq => exact hq.elim
  | .ok .brk, hq => exact hq.elim
  | .ok .cont, hq => exact hq.elim
def tCallE (sp : Sp) (EE : L2.St → XK) (t : TA) : TE := fun σ H Q => t σ H fun vs H1 => sp vs H1 Q (EE σ)
theorem callDXp {EE : L2.St → XK} (D : DefX X.prog X.w X.K X.mg X.base k x ps sp) (hx : ∀ σ, PassesAt (L2.CX X.prog X.w) X σ (EE σ)) (hr : RG k X.A) (ha : PA X (e :: es) t) (hg : Gl X x := by rfl) (hdb : (x == ("__debug__" : Str)) = false := by decide)
    (he : starEach (e :: es) X.env = (false, eval e X.env) :: starEach es X.env := by rfl) (hpl : (backTo pos (starEach es X.env)).any (·.1) = false := by rfl) : PE X (.Call (.Name x p) (e :: es) [] pos) (tCallE sp EE t) := by
  obtain ⟨f, fd, F, hm, hk, hb⟩ := D.ex
  refine ⟨fun pins s σ H Q I h => wpAny_Call_Name_kw (ld_glob I hg hm ?_ hdb)⟩
  exact PySem.W.callWith_K (h₀ := X.base) I.ok.mod.kin hk (thn (ha.run pos pins s σ H _ I h) fun us s1 ⟨vs, H1, I1, r, q⟩ => ⟨I1.kIn, run_fnPX F hr hb (hx σ) I1 r q⟩) he hpl
theorem callDX (D : DefX X.prog X.w X.K X.mg X.base k x ps sp) (tk : Takes X W) (hr : RG k X.A) (ha : PA X (e :: es) t) (hg : Gl X x := by rfl) (hdb : (x == ("__debug__" : Str)) = false := by decide)
    (he : starEach (e :: es) X.env = (false, eval e X.env) :: starEach es X.env := by rfl) (hpl : (backTo pos (starEach es X.env)).any (·.1) = false := by rfl) : PE X (.Call (.Name x p) (e :: es) [] pos) (tCallE sp (WE W) t) := callDXp D (fun σ => passAt tk σ) hr ha hg hdb he hpl
end
section
variable {P : Program} {w : World} {K : PySem.W.Frag} {mg : Str → Option Value} {base : Heap} {k : Nat} {f : Addr} {fd : FuncData} {ps : List Str} {sp : Sp} {x : Str}
/-- where nothing is raised, it's a def as any other -/
theorem FnG.calm (F : FnG P w K mg base (L2.CX P w) k f fd ps sp) : FnG P w K mg base CX0 k f fd ps (fun vs H Q _ => sp vs H Q fun _ _ _ => False) := by
  refine ⟨fun vs H Q E h => F.len vs H Q _ h, fun A outer s H args us vs Q E hr e0 hb r h => codeAny_mono (F.run A outer s H args us vs Q _ hr e0 hb r h) fun z s' hq => ?_⟩
  match z, hq with
  | .error ee, hq =>
    obtain ⟨_, _, _, _, _, _, _, _, _, _, _, _, no⟩ := hq
    exact no.elim
  | .ok (.ret u), hq => exact hq
  | .ok .next, hq => exact hq
  | .ok .brk, hq => exact hq
  | .ok .cont, hq => exact hq
theorem FnG.weaken {CX : CXT} {sp' : Sp} (F : FnG P w K mg base CX k f fd ps sp) (h : ∀ vs H Q E, sp' vs H Q E → sp vs H Q E) : FnG P w K mg base CX k f fd ps sp' :=
  ⟨fun vs H Q E z => F.len vs H Q E (h _ _ _ _ z), fun A outer s H args us vs Q E hr e0 hb r z => F.run A outer s H args us vs Q E hr e0 hb r (h _ _ _ _ z)⟩
theorem DefX.calm {sp' : Sp} (D : DefX P w K mg base k x ps sp) (h : ∀ vs H Q E, sp' vs H Q E → sp vs H Q fun _ _ _ => False) : Def P w K mg base k x ps sp' := by
  obtain ⟨f, fd, F, hm, hk, hb⟩ := D.ex
  exact ⟨f, fd, FnG.weaken (FnG.calm F) h, hm, hk, hb⟩
end
end Cl

/-! The probes of a set's table meet every slot, for every mask one below a power of two. -/
namespace SG
open PySem PySem.Spec L2
def S : Nat → Nat
  | 0 => 0
  | n + 1 => S n * 5 + 1
theorem S_add (a : Nat) : ∀ b, S (a + b) = 5 ^ b * S a + S b
  | 0 => by simp [S]
  | b + 1 => by
    show S (a + b) * 5 + 1 = _
    rw [S_add a b, Nat.pow_succ]
    show _ = 5 ^ b * 5 * S a + (S b * 5 + 1)
    rw [Nat.add_mul, Nat.mul_right_comm]
    omega
theorem pow5 (n : Nat) : ∃ q, 5 ^ n = 4 * q + 1 := by
  induction n with
  | zero => exact ⟨0, rfl⟩
  | succ n ih => obtain ⟨q, e⟩ := ih; exact ⟨5 * q + 1, by rw [Nat.pow_succ, e]; omega⟩
theorem S_pow : ∀ n, ∃ c, S (2 ^ n) = 2 ^ n * (2 * c + 1)
  | 0 => ⟨0, rfl⟩
  | n + 1 => by
    obtain ⟨c, e⟩ := S_pow n
    obtain ⟨q, eq⟩ := pow5 (2 ^ n)
    refine ⟨2 * q * c + q + c, ?_⟩
    rw [show 2 ^ (n + 1) = 2 ^ n + 2 ^ n by rw [Nat.pow_succ]; omega, S_add, e, eq]
    generalize 2 ^ n = p
    have h : ∀ x : Nat, (4 * q + 1) * x + x = 2 * (2 * q + 1) * x := fun x => by
      have : (4 * q + 1) * x + x = (4 * q + 1 + 1) * x := by rw [Nat.add_mul (4 * q + 1) 1 x, Nat.one_mul]
      rw [this]; congr 1; omega
    rw [h]
    have h2 : (p + p) * (2 * (2 * q * c + q + c) + 1) = p * (2 * (2 * (2 * q * c + q + c) + 1)) := by rw [← Nat.two_mul, Nat.mul_comm 2 p, Nat.mul_assoc]
    rw [h2, Nat.mul_comm (2 * (2 * q + 1)), Nat.mul_assoc]
    congr 1
    have h3 : (2 * c + 1) * (2 * (2 * q + 1)) = 2 * ((2 * c + 1) * (2 * q + 1)) := by rw [Nat.mul_left_comm]
    rw [h3]
    congr 1
    rw [Nat.add_mul, Nat.mul_add, Nat.one_mul, Nat.mul_one]
    have h4 : 2 * c * (2 * q) = 2 * (2 * q * c) := by
      rw [Nat.mul_assoc, Nat.mul_comm c]
    omega
theorem S_surj : ∀ n j, ∃ b, b < 2 ^ n ∧ S b % 2 ^ n = j % 2 ^ n
  | 0, j => ⟨0, by decide, by rw [Nat.pow_zero, Nat.mod_one, Nat.mod_one]⟩
  | n + 1, j => by
    obtain ⟨b, hb, e⟩ := S_surj n j
    obtain ⟨c, ec⟩ := S_pow n
    obtain ⟨q, eq⟩ := pow5 b
    have e2 : 2 ^ (n + 1) = 2 * 2 ^ n := by rw [Nat.pow_succ, Nat.mul_comm]
    have pos : 0 < 2 ^ n := Nat.pow_pos (by decide)
    rw [e2]
    have key : ∀ x y p : Nat, 0 < p → x % p = y % p → x % (2 * p) = y % (2 * p) ∨ (x + p) % (2 * p) = y % (2 * p) := by
      intro x y p hp h
      have d1 := Nat.div_add_mod x p
      have d2 := Nat.div_add_mod y p
      have hm : x % p < p := Nat.mod_lt _ hp
      generalize x / p = u at d1
      generalize y / p = v at d2
      generalize x % p = r at d1 h hm
      rw [← h] at d2
      subst d1 d2
      have z : ∀ k, (2 * p * k + r) % (2 * p) = r := fun k => by rw [Nat.mul_add_mod]; exact Nat.mod_eq_of_lt (by omega)
      have z1 : ∀ k, (2 * p * k + (p + r)) % (2 * p) = p + r := fun k => by rw [Nat.mul_add_mod]; exact Nat.mod_eq_of_lt (by omega)
      have ev : ∀ k, p * (2 * k) + r = 2 * p * k + r := fun k => by rw [← Nat.mul_assoc, Nat.mul_comm p 2]
      have od : ∀ k, p * (2 * k + 1) + r = 2 * p * k + (p + r) := fun k => by rw [Nat.mul_add, ← Nat.mul_assoc, Nat.mul_comm p 2, Nat.mul_one, Nat.add_assoc]
      have ep : ∀ k, p * (2 * k) + r + p = 2 * p * k + (p + r) := fun k => by rw [ev]; omega
      have op : ∀ k, p * (2 * k + 1) + r + p = 2 * p * (k + 1) + r := fun k => by rw [od, Nat.mul_add]; omega
      rcases Nat.mod_two_eq_zero_or_one u with hu | hu <;> rcases Nat.mod_two_eq_zero_or_one v with hv | hv
      · obtain ⟨a, rfl⟩ : ∃ a, u = 2 * a := ⟨u / 2, by omega⟩
        obtain ⟨b, rfl⟩ : ∃ a, v = 2 * a := ⟨v / 2, by omega⟩
        left; rw [ev, ev, z, z]
      · obtain ⟨a, rfl⟩ : ∃ a, u = 2 * a := ⟨u / 2, by omega⟩
        obtain ⟨b, rfl⟩ : ∃ a, v = 2 * a + 1 := ⟨v / 2, by omega⟩
        right; rw [ep, od, z1, z1]
      · obtain ⟨a, rfl⟩ : ∃ a, u = 2 * a + 1 := ⟨u / 2, by omega⟩
        obtain ⟨b, rfl⟩ : ∃ a, v = 2 * a := ⟨v / 2, by omega⟩
        right; rw [op, ev, z, z]
      · obtain ⟨a, rfl⟩ : ∃ a, u = 2 * a + 1 := ⟨u / 2, by omega⟩
        obtain ⟨b, rfl⟩ : ∃ a, v = 2 * a + 1 := ⟨v / 2, by omega⟩
        left; rw [od, od, z1, z1]
    rcases key (S b) j (2 ^ n) pos e with h | h
    · exact ⟨b, by omega, h⟩
    · refine ⟨2 ^ n + b, by omega, ?_⟩
      rw [← h, S_add, ec, eq]
      generalize 2 ^ n = p
      have : (4 * q + 1) * (p * (2 * c + 1)) = 2 * p * ((4 * q + 1) * c + 2 * q) + p := by
        rw [Nat.mul_left_comm, Nat.mul_comm 2 p, Nat.mul_assoc]
        have : (4 * q + 1) * (2 * c + 1) = 2 * ((4 * q + 1) * c + 2 * q) + 1 := by
          rw [Nat.mul_add, Nat.mul_left_comm]; omega
        rw [this, Nat.mul_add, Nat.mul_one]
      rw [this, Nat.add_assoc, Nat.mul_add_mod, Nat.add_comm p]
def MaskG (m : Nat) : Prop := ∃ n, 3 ≤ n ∧ n ≤ 13 ∧ m + 1 = 2 ^ n
theorem MaskG.odd {m : Nat} (h : MaskG m) : m % 2 = 1 := by
  obtain ⟨n, h1, h2, e⟩ := h
  obtain ⟨k, rfl⟩ : ∃ k, n = k + 1 := ⟨n - 1, by omega⟩
  rw [Nat.pow_succ] at e
  omega
theorem MaskG.le {m : Nat} (h : MaskG m) : m ≤ 8191 := by
  obtain ⟨n, h1, h2, e⟩ := h
  have : 2 ^ n ≤ 2 ^ 13 := Nat.pow_le_pow_right (by decide) h2
  omega
theorem lcgN_S (m : Nat) : ∀ k, lcgN m k = S k % (m + 1)
  | 0 => by show 0 = 0 % (m + 1); rw [Nat.zero_mod]
  | k + 1 => by
    show (lcgN m k * 5 + 1) % (m + 1) = (S k * 5 + 1) % (m + 1)
    rw [lcgN_S m k, Nat.add_mod, Nat.mod_mul_mod, ← Nat.add_mod]
theorem lcg_allG {m : Nat} (h : MaskG m) {j : Nat} (hj : j ≤ m) : ∃ b, b ≤ m ∧ lcgN m b = j := by
  obtain ⟨n, h1, h2, e⟩ := h
  obtain ⟨b, hb, eb⟩ := S_surj n j
  refine ⟨b, by omega, ?_⟩
  rw [lcgN_S, e, eb]
  exact Nat.mod_eq_of_lt (by omega)
theorem lcg_roundG {m : Nat} (h : MaskG m) : lcgN m (m + 1) = 0 := by
  obtain ⟨n, h1, h2, e⟩ := h
  obtain ⟨c, ec⟩ := S_pow n
  rw [lcgN_S, e, ec, Nat.mul_mod_right]
theorem lcgI_allG {m : Nat} (h : MaskG m) {i j : Nat} (hi : i ≤ m) (hj : j ≤ m) : ∃ k, k ≤ m ∧ lcgI m i k = j := by
  obtain ⟨a, ha, ea⟩ := lcg_allG h hi
  obtain ⟨b, hb, eb⟩ := lcg_allG h hj
  by_cases q : a ≤ b
  · exact ⟨b - a, by omega, by rw [← ea, lcgN_add, ← eb]; congr 1; omega⟩
  · refine ⟨m + 1 + b - a, by omega, ?_⟩
    have e0 : lcgI m 0 b = lcgN m b := by
      have := lcgN_add m 0 b
      rw [Nat.zero_add] at this
      exact this
    rw [← ea, lcgN_add, show a + (m + 1 + b - a) = m + 1 + b by omega, ← lcgN_add, lcg_roundG h, e0, eb]
theorem run_meetsG {m : Nat} (hm : MaskG m) (h : Int) {j : Nat} (hj : j ≤ m) : ∃ n, n ≤ m + 12 ∧ runI m (SetTable.bits h) n = j := by
  obtain ⟨k, hk, e⟩ := lcgI_allG hm (runI_le m (SetTable.bits h) 12) hj
  exact ⟨12 + k, by omega, by rw [runI_tail (bits_lt h), e]⟩
theorem off_le (m : Nat) : ∀ n i b, off m i b n ≤ 10 * n
  | 0, i, b => Nat.le_refl 0
  | n + 1, i, b => by
    show SetTable.runEnd m i - i + 1 + off m (SetTable.leap m i b).1 (SetTable.leap m i b).2 n ≤ _
    have := off_le m n (SetTable.leap m i b).1 (SetTable.leap m i b).2
    have : SetTable.runEnd m i - i ≤ 9 := by unfold SetTable.runEnd; split <;> omega
    omega
theorem nth_offj (m : Nat) (h : Int) (n : Nat) : way m h (off m (SetTable.bits h % (m + 1)) (SetTable.bits h) n) = runI m (SetTable.bits h) n := by
  show (nth m (runAt m (SetTable.bits h % (m + 1)) (SetTable.bits h)) _).j = _
  rw [nth_off, itL_run]
  rfl
theorem nth_meetsG {m : Nat} (hm : MaskG m) (h : Int) {j : Nat} (hj : j ≤ m) : ∃ k, k < 10 * SetTable.turns m ∧ way m h k = j := by
  obtain ⟨n, hn, e⟩ := run_meetsG hm h hj
  refine ⟨_, ?_, (nth_offj m h n).trans e⟩
  have := off_le m n (SetTable.bits h % (m + 1)) (SetTable.bits h)
  unfold SetTable.turns
  omega
theorem way_leG (m : Nat) (h : Int) (k : Nat) : way m h k ≤ m := by
  have hi : SetTable.bits h % (m + 1) ≤ m := Nat.le_of_lt_succ (Nat.mod_lt _ (Nat.succ_pos m))
  have := nth_in (m := m) k (runAt m (SetTable.bits h % (m + 1)) (SetTable.bits h)) (by
    obtain ⟨a, b, c⟩ := runEnd_bd hi
    show SetTable.bits h % (m + 1) + (SetTable.runEnd m (SetTable.bits h % (m + 1)) - SetTable.bits h % (m + 1)) ≤ m
    omega)
  show (nth m (runAt m (SetTable.bits h % (m + 1)) (SetTable.bits h)) k).j ≤ m
  omega
theorem free_findG {m : Nat} (hm : MaskG m) (owner : Array (Option Nat)) (h : Int) {j : Nat} (hj : j ≤ m) (hn : oAt owner j = none) :
    ∃ K, SetTable.layClean.free m owner (SetTable.turns m) (SetTable.bits h % (m + 1)) (SetTable.bits h) = some (way m h K) ∧
      oAt owner (way m h K) = none ∧ ∀ k, k < K → oAt owner (way m h k) ≠ none := by
  obtain ⟨n, hn2, e⟩ := run_meetsG hm h hj
  have e2 := (nth_offj m h n).trans e
  obtain ⟨K, hK, hp, hl⟩ := st_least (p := fun k => oAt owner (way m h k) = none) _ (by show oAt owner (way m h (off m (SetTable.bits h % (m + 1)) (SetTable.bits h) n)) = none; rw [e2]; exact hn)
  refine ⟨K, ?_, hp, hl⟩
  refine free_spec m owner (SetTable.turns m) n _ _ K (by unfold SetTable.turns; omega) hK (fun k hk => ?_) ?_
  · cases q : oAt owner (way m h k) with
    | none => exact absurd q (hl k hk)
    | some _ => rfl
  · show (oAt owner (way m h K)).isNone = true
    rw [hp]; rfl
end SG

/-! A set's table laid anew, and a row put into it, at any mask one below a power of two. -/
namespace SG
open PySem PySem.Spec L2
theorem own_step {m : Nat} (hm : MaskG m) {done : List Int} {owner : Array (Option Nat)} (O : Own m done owner) (hl : done.length ≤ m) (h : Int) :
    ∃ j, SetTable.layClean.free m owner (SetTable.turns m) (SetTable.bits h % (m + 1)) (SetTable.bits h) = some j ∧
      Own m (done ++ [h]) (owner.setIfInBounds j (some done.length)) := by
  obtain ⟨ps, lp, hp⟩ := O.ps
  obtain ⟨j0, hj0, nj0⟩ := st_missing ps (m + 1) (by omega)
  have free0 : oAt owner j0 = none := Classical.byContradiction fun z => nj0 (hp j0 (by omega) z)
  obtain ⟨K, e, hn, hb⟩ := free_findG hm owner h (Nat.le_of_lt_succ hj0) free0
  refine ⟨_, e, ?_⟩
  have hw := way_leG m h K
  have self : oAt (owner.setIfInBounds (way m h K) (some done.length)) (way m h K) = some done.length := oAt_set_self _ (by rw [O.sz]; omega)
  have ne : ∀ {j}, j ≠ way m h K → oAt (owner.setIfInBounds (way m h K) (some done.length)) j = oAt owner j := fun hj => oAt_set_ne _ hj
  have keep : ∀ j, oAt owner j ≠ none → oAt (owner.setIfInBounds (way m h K) (some done.length)) j ≠ none := fun j hj => by
    by_cases q : j = way m h K
    · rw [q, self]; exact nofun
    · rw [ne q]; exact hj
  refine ⟨by rw [Array.size_setIfInBounds]; exact O.sz, fun j k hj hk => ?_, fun k hk => ?_, ⟨ps ++ [way m h K], by simp [lp], fun j hj hq => ?_⟩⟩
  · by_cases q : j = way m h K
    · rw [q, self] at hk
      injection hk with hk
      exact ⟨h, K, by rw [← hk]; simp, q.symm, fun k' hk' => keep _ (hb k' hk')⟩
    · rw [ne q] at hk
      obtain ⟨h', K', e1, e2, e3⟩ := O.at_ j k hj hk
      exact ⟨h', K', by rw [List.getElem?_append_left (List.getElem?_eq_some_iff.mp e1).1]; exact e1, e2, fun k' hk' => keep _ (e3 k' hk')⟩
  · rw [List.length_append] at hk
    by_cases q : k = done.length
    · exact ⟨way m h K, hw, by rw [self, q]⟩
    · obtain ⟨j, hj, ej⟩ := O.all k (by have : [h].length = 1 := rfl; omega)
      refine ⟨j, hj, ?_⟩
      rw [ne (fun z => by rw [z, hn] at ej; cases ej)]
      exact ej
  · by_cases q : j = way m h K
    · simp [q]
    · rw [ne q] at hq
      exact List.mem_append_left _ (hp j hj hq)
theorem fold_okG {m : Nat} (hm : MaskG m) : ∀ (rest done : List Int) (owner : Array (Option Nat)), Own m done owner → done.length + rest.length ≤ m →
    ∃ owner', List.foldl (stepF m) (some (owner, done.length)) rest = some (owner', (done ++ rest).length) ∧ Own m (done ++ rest) owner'
  | [], done, owner, O, _ => ⟨owner, by simp, by simpa using O⟩
  | h :: rest, done, owner, O, hl => by
    obtain ⟨j, e, O1⟩ := own_step hm O (by simp at hl; omega) h
    obtain ⟨o', e2, O2⟩ := fold_okG hm rest (done ++ [h]) _ O1 (by simp at hl ⊢; omega)
    refine ⟨o', ?_, by simpa using O2⟩
    rw [List.foldl_cons]
    have e3 : stepF m (some (owner, done.length)) h = some (owner.setIfInBounds j (some done.length), (done ++ [h]).length) := by
      show (do let j ← SetTable.layClean.free m owner (SetTable.turns m) (SetTable.bits h % (m + 1)) (SetTable.bits h); pure (owner.setIfInBounds j (some done.length), done.length + 1)) = _
      rw [e]
      simp
    rw [e3, e2]
    simp
theorem layClean_okG {m : Nat} (hm : MaskG m) {hs : Array Int} (hl : hs.size ≤ m) : ∃ owner, SetTable.layClean m hs = some owner ∧ Own m hs.toList owner := by
  obtain ⟨o, e, O⟩ := fold_okG hm hs.toList [] _ (Own.init m) (by simpa using hl)
  refine ⟨o, ?_, by simpa using O⟩
  rw [layClean_eq]
  rw [show (0 : Nat) = ([] : List Int).length from rfl, e]
  rfl
structure TabG (t : SetTable) (hs : List Int) : Prop where
  ris : Ris t.place.toList
  dm : t.dummies = #[]
  sz : t.place.size = hs.length
  mok : MaskG t.mask
  bd : ∀ x ∈ t.place.toList, x ≤ t.mask
  reach : ∀ (i : Nat) (h : Int) (j : Nat), hs[i]? = some h → t.place.toList[i]? = some j →
    ∃ k, way t.mask h k = j ∧ ∀ k', k' < k → way t.mask h k' ∈ t.place.toList
section
variable {t : SetTable} {hs : List Int} (T : TabG t hs)
include T
theorem TabG.first (hl : hs.length ≤ t.mask) (h : Int) : ∃ K, K < 10 * SetTable.turns t.mask ∧ way t.mask h K ∉ t.place.toList ∧ ∀ k, k < K → way t.mask h k ∈ t.place.toList := by
  obtain ⟨j, hj, nj⟩ := st_missing t.place.toList (t.mask + 1) (by rw [Array.length_toList, T.sz]; omega)
  obtain ⟨k, hk, e⟩ := nth_meetsG T.mok h (Nat.le_of_lt_succ hj)
  obtain ⟨K, hK, hp, hl2⟩ := st_least (p := fun k => way t.mask h k ∉ t.place.toList) k (by show way t.mask h k ∉ _; rw [e]; exact nj)
  exact ⟨K, by omega, hp, fun k' hk' => Classical.byContradiction fun z => hl2 k' hk' z⟩
theorem TabG.before {h : Int} {K i j : Nat} (hK : way t.mask h K ∉ t.place.toList) (hi : hs[i]? = some h) (hj : t.place.toList[i]? = some j) :
    ∃ k, k < K ∧ way t.mask h k = j := by
  obtain ⟨k, e, hb⟩ := T.reach i h j hi hj
  refine ⟨k, Classical.byContradiction fun z => ?_, e⟩
  rcases Nat.lt_or_eq_of_le (Nat.le_of_not_lt z) with q | q
  · exact hK (hb K q)
  · rw [q, e] at hK
    exact hK (List.mem_of_getElem? hj)
theorem TabG.below_le (j : Nat) : SetTable.below t.place j ≤ hs.length := by
  have := (below_cut T.ris j).1
  rw [← T.sz]
  exact this
theorem TabG.put {h : Int} {K : Nat} (hK : way t.mask h K ∉ t.place.toList) (hb : ∀ k, k < K → way t.mask h k ∈ t.place.toList) :
    (t.put (way t.mask h K)).2 = SetTable.below t.place (way t.mask h K) ∧ SetTable.below t.place (way t.mask h K) ≤ hs.length ∧
      TabG (t.put (way t.mask h K)).1 (hs.take (SetTable.below t.place (way t.mask h K)) ++ h :: hs.drop (SetTable.below t.place (way t.mask h K))) ∧
      (t.put (way t.mask h K)).1.mask = t.mask ∧ (t.put (way t.mask h K)).1.led = t.led ∧ (t.put (way t.mask h K)).1.plain = t.plain ∧
      (t.put (way t.mask h K)).1.fill = hs.length + 1 := by
  have pl := put_place t (way t.mask h K)
  have pd := put_dm T.dm (way t.mask h K)
  have ble := T.below_le (way t.mask h K)
  have wle := way_leG t.mask h K
  have mm : (t.put (way t.mask h K)).1.mask = t.mask := rfl
  have ris : Ris (t.put (way t.mask h K)).1.place.toList :=
    ris_insert T.ris fun z => hK (List.mem_of_getElem? (by rw [Array.getElem?_toList]; exact z))
  have mem : ∀ x, x ∈ (t.put (way t.mask h K)).1.place.toList ↔ x = way t.mask h K ∨ x ∈ t.place.toList := fun x => by
    rw [pl, (put_perm _ _ _).mem_iff, List.mem_cons]
  have lp : t.place.toList.length = hs.length := by rw [Array.length_toList, T.sz]
  have szz : (t.put (way t.mask h K)).1.place.size = hs.length + 1 := by
    rw [← Array.length_toList, pl, len_ins _ (by rw [lp]; exact ble), lp]
  generalize hp : SetTable.below t.place (way t.mask h K) = p at *
  refine ⟨hp, ble, ⟨ris, pd, by rw [szz, len_ins _ ble], T.mok, fun x hx => ?_, fun i h' j hi hj => ?_⟩, rfl, rfl, rfl, ?_⟩
  · rcases (mem x).mp hx with q | q
    · rw [q]; exact wle
    · exact T.bd x q
  · rw [tins_get _ ble] at hi
    rw [pl, tins_get _ (by rw [lp]; exact ble)] at hj
    rw [mm]
    have old : ∀ i', hs[i']? = some h' → t.place.toList[i']? = some j → ∃ k, way t.mask h' k = j ∧ ∀ k', k' < k → way t.mask h' k' ∈ (t.put (way t.mask h K)).1.place.toList := fun i' a b => by
      obtain ⟨k, e, g⟩ := T.reach i' h' j a b
      exact ⟨k, e, fun k' hk' => (mem _).mpr (.inr (g k' hk'))⟩
    by_cases q : i < p
    · rw [if_pos q] at hi hj
      exact old i hi hj
    · rw [if_neg q] at hi hj
      by_cases q2 : i = p
      · rw [if_pos q2] at hi hj
        injection hi with hi
        injection hj with hj
        subst hi hj
        exact ⟨K, rfl, fun k' hk' => (mem _).mpr (.inr (hb k' hk'))⟩
      · rw [if_neg q2] at hi hj
        exact old (i - 1) hi hj
  · show (t.put (way t.mask h K)).1.place.size + (t.put (way t.mask h K)).1.dummies.size = _
    rw [pd, szz]
    rfl
end
theorem pw_filterMap {f : Nat → Option (Nat × Nat)} (hf : ∀ j x, f j = some x → x.1 = j) : ∀ (l : List Nat), Ris l → Ris ((l.filterMap f).map (·.1)) ∧ ∀ x ∈ (l.filterMap f).map (·.1), x ∈ l
  | [], _ => ⟨.nil, fun _ z => nomatch z⟩
  | a :: l, h => by
    obtain ⟨h1, h2⟩ := List.pairwise_cons.mp h
    obtain ⟨i1, i2⟩ := pw_filterMap hf l h2
    cases q : f a with
    | none => rw [List.filterMap_cons_none q]; exact ⟨i1, fun x hx => List.mem_cons_of_mem _ (i2 x hx)⟩
    | some x =>
      rw [List.filterMap_cons_some q, List.map_cons]
      have e := hf a x q
      refine ⟨List.pairwise_cons.mpr ⟨fun y hy => by rw [e]; exact h1 y (i2 y hy), i1⟩, fun y hy => ?_⟩
      rcases List.mem_cons.mp hy with z | z
      · rw [z, e]; exact List.mem_cons_self
      · exact List.mem_cons_of_mem _ (i2 y z)
theorem ris_live (m : Nat) (owner : Array (Option Nat)) : Ris ((liveOf m owner).map (·.1)) :=
  (pw_filterMap (f := fun j => (owner.getD j none).map fun x => (j, x)) (fun j x e => by
    cases q : owner.getD j none with
    | none => rw [q] at e; cases e
    | some y => rw [q] at e; cases e; rfl) (List.range (m + 1)) List.pairwise_lt_range).1
theorem relaid_okG (t : SetTable) {hs : Array Int} {wanted M : Nat} (eM : SetTable.sizeAbove wanted - 1 = M) (hM : MaskG M) (hl : hs.size ≤ M) :
    ∃ t' order, t.relaid hs wanted = some (t', order) ∧ order.toList.Perm (List.range hs.size) ∧
      TabG t' (order.toList.map fun i => hs.getD i 0) ∧ t'.mask = M ∧ t'.led = t.led ∧ t'.plain = t.plain ∧ t'.dummies = #[] := by
  obtain ⟨owner, e, O⟩ := layClean_okG hM hl
  refine ⟨tabOf t M owner, ((liveOf M owner).map (·.2)).toArray, ?_, ?_, ?_, rfl, rfl, rfl, rfl⟩
  · rw [relaid_eq, eM, e]; rfl
  · have ris := ris_live M owner
    have nd : ((liveOf M owner).map (·.1)).Nodup := List.Pairwise.imp (fun h => Nat.ne_of_lt h) ris
    obtain ⟨ps, lp, hp⟩ := O.ps
    have le1 := nat_nodup_len _ ps nd fun x hx => by
      obtain ⟨⟨j, k⟩, hm, rfl⟩ := List.mem_map.mp hx
      obtain ⟨h1, h2⟩ := (mem_live O.sz).mp hm
      exact hp j h1 (by rw [h2]; exact nofun)
    have all : ∀ k, k < hs.size → k ∈ (liveOf M owner).map (·.2) := fun k hk => by
      obtain ⟨j, hj, ej⟩ := O.all k (by rw [Array.length_toList]; exact hk)
      exact List.mem_map.mpr ⟨(j, k), (mem_live O.sz).mpr ⟨hj, ej⟩, rfl⟩
    have le2 := nat_nodup_len (List.range hs.size) ((liveOf M owner).map (·.2)) List.nodup_range fun x hx => all x (List.mem_range.mp hx)
    rw [List.length_map] at le1 le2
    rw [List.length_range] at le2
    rw [lp, Array.length_toList (xs := hs)] at le1
    exact perm_range _ _ (by show ((liveOf M owner).map (·.2)).length = _; rw [List.length_map]; omega) all
  · refine ⟨ris_live M owner, rfl, by show ((liveOf M owner).map (·.1)).toArray.size = _; simp, hM, fun x hx => ?_, fun i h j hi hj => ?_⟩
    · obtain ⟨⟨j, k⟩, hm, rfl⟩ := List.mem_map.mp hx
      exact ((mem_live O.sz).mp hm).1
    · have hi : (((liveOf M owner).map (·.2)).map fun i => hs.getD i 0)[i]? = some h := hi
      have hj : ((liveOf M owner).map (·.1))[i]? = some j := hj
      rw [List.getElem?_map] at hj
      rw [List.map_map, List.getElem?_map] at hi
      cases q : (liveOf M owner)[i]? with
      | none => rw [q] at hj; cases hj
      | some x =>
        obtain ⟨j', k⟩ := x
        rw [q] at hi hj
        injection hj with hj
        injection hi with hi
        have hj : j' = j := hj
        subst hj
        have hi : hs.getD k 0 = h := hi
        obtain ⟨h1, h2⟩ := (mem_live O.sz).mp (List.mem_of_getElem? q)
        obtain ⟨h', K, e1, e2, e3⟩ := O.at_ j' k h1 h2
        have e4 : h' = h := by
          rw [Array.getElem?_toList] at e1
          rw [← hi, Array.getD_eq_getD_getElem?, e1]
          rfl
        subst e4
        refine ⟨K, e2, fun k' hk' => ?_⟩
        show way M h' k' ∈ (liveOf M owner).map (·.1)
        cases q2 : oAt owner (way M h' k') with
        | none => exact absurd q2 (e3 k' hk')
        | some z => exact List.mem_map.mpr ⟨(_, z), (mem_live O.sz).mpr ⟨way_leG M h' k', q2⟩, rfl⟩
end SG

/-! Sets whose elements are objects of a kind: an element sought, put in, the table laid anew. -/
namespace SG
open PySem PySem.Spec L2
/-- what a set asks of the kind of its elements -/
structure SKind (P : Program) (w : World) (K : Type) [DecidableEq K] where
  is : Heap → K → Addr → Prop
  hash : K → Int
  room : Nat
  keep : ∀ {h h' : Heap} {k : K} {a : Addr}, is h k a → (∀ c o, h.get? c = some o → o.cls = .type "tuple" → h'.get? c = some o) → is h' k a
  pyHash : ∀ {A : Around} {E : Value → Shared → Prop} {s : Shared} {k : K} {a : Addr} {Q : Int → Shared → Prop},
    A.units + room < cLine → is s.heap k a → (∀ tk, Q (hash k) { s with toks := tk }) → wpAny (model P w) A (PySem.pyHash (.ref a)) Q E s
  eqB : ∀ {A : Around} {E : Value → Shared → Prop} {s : Shared} {x y : K} {a b : Addr} {Q : Bool → Shared → Prop},
    A.units + room < cLine → is s.heap x a → is s.heap y b → (∀ tk, Q (decide (x = y)) { s with toks := tk }) → wpAny (model P w) A (eqBool (.ref a) (.ref b)) Q E s
  byVal : ∀ {A : Around} {E : Value → Shared → Prop} {s : Shared} {k : K} {a : Addr} {Q : Bool → Shared → Prop},
    is s.heap k a → Q true s → wpAny (model P w) A (hashByValue 8 (.ref a)) Q E s
  seen : ∀ {A : Around} {E : Value → Shared → Prop} {s : Shared} {k : K} {b : Addr} {Q : Bool → Shared → Prop},
    is s.heap k b → ∀ {ys : List Value}, (∀ y ∈ ys, ∃ k' c, y = .ref c ∧ is s.heap k' c) → Q false s →
    wpAny (model P w) A (searchCouldBeSeen (.ref b) ys) Q E s
section
variable {P : Program} {w : World} {K : Type} [DecidableEq K] (knd : SKind P w K)
def rowsG (L : List (Addr × K)) : List (Int × Value) := L.map fun p => (knd.hash p.2, .ref p.1)
structure SetG (h : Heap) (a : Addr) (L : List (Addr × K)) (es : Array (Int × Value)) (ep : Nat) (t : SetTable) : Prop where
  ob : ∃ o, h.get? a = some o ∧ o.ExactSet ∧ o.data = .set es ep t
  rows : es.toList = rowsG knd L
  tab : TabG t (L.map fun p => knd.hash p.2)
  nd : (L.map (·.2)).Nodup
  tup : ∀ p ∈ L, knd.is h p.2 p.1
  plain : t.plain = true
  led : w.params.followText "set-order" = true ∨ t.led = true
  room : L.length * 5 < t.mask * 3
  few : L.length < 2048
variable {knd}
theorem nth_dummy (m : Nat) (p : SetTable.Probe) (hp : p.dummy = none) : ∀ k, (nth m p k).dummy = none
  | 0 => hp
  | k + 1 => by
    rw [nth_succ]
    have := nth_dummy m p hp k
    unfold adv
    split <;> exact this
section
variable {A : Around} {E : Value → Shared → Prop} {s : Shared} {a : Addr} {L : List (Addr × K)} {es : Array (Int × Value)} {ep : Nat} {t : SetTable}
  (R : SetG knd s.heap a L es ep t)
include R
theorem SetG.size : es.size = L.length := by
  rw [← Array.length_toList, R.rows]; exact List.length_map _
theorem SetG.fits : t.fits es.size = true := by
  have h1 := R.tab.sz
  rw [List.length_map] at h1
  have h2 := R.size
  have h3 := R.room
  unfold SetTable.fits SetTable.fill
  rw [R.tab.dm, h1, h2]
  simp
  omega
theorem SetG.gw : ¬ t.gaveWay = true := by
  have := R.tab.mok.odd
  unfold SetTable.gaveWay
  rw [this]
  decide
theorem SetG.entry {i : Nat} {p : Addr × K} (h : L[i]? = some p) : es[i]? = some (knd.hash p.2, .ref p.1) := by
  rw [← Array.getElem?_toList, R.rows]
  unfold rowsG
  rw [List.getElem?_map, h]
  rfl
theorem SetG.at_place {i j : Nat} (h : t.place.toList[i]? = some j) : ∃ p, L[i]? = some p := by
  have h1 := (List.getElem?_eq_some_iff.mp h).1
  have h2 := R.tab.sz
  rw [List.length_map] at h2
  rw [Array.length_toList, h2] at h1
  exact ⟨L[i], List.getElem?_eq_getElem h1⟩
theorem SetG.toks (tk : Nat) : SetG knd ({ s with toks := tk } : Shared).heap a L es ep t := R
theorem wpAny_state {Q : Array (Int × Value) × Nat × SetTable → Shared → Prop} (q : Q (es, ep, t) s) : wpAny (model P w) A (setState a) Q E s := by
  obtain ⟨o, h1, _, h3⟩ := R.ob
  exact wpAny_setState_of h1 h3 R.fits q
theorem seek_from {x : Addr} {k : K} (hx : knd.is s.heap k x) (hu : A.units + knd.room < cLine) {N : Nat} (hlt : N < 10 * SetTable.turns t.mask)
    (hN : way t.mask (knd.hash k) N ∉ t.place.toList) (hb : ∀ c, c < N → way t.mask (knd.hash k) c ∈ t.place.toList) {Q : SetFound → Shared → Prop}
    (q1 : k ∈ L.map (·.2) → ∀ tk, Q (.there none) { s with toks := tk })
    (q2 : k ∉ L.map (·.2) → ∀ tk, Q (.free (way t.mask (knd.hash k) N) false) { s with toks := tk }) :
    ∀ (f c : Nat) (stand : Option SetTable.Probe) (tk : Nat),
      stand.getD (t.probeStart (knd.hash k)) = nth t.mask (runAt t.mask (SetTable.bits (knd.hash k) % (t.mask + 1)) (SetTable.bits (knd.hash k))) c →
      c ≤ N → N - c < f → (∀ (i : Nat) (p : Addr × K), L[i]? = some p → p.2 = k → ∃ c', c ≤ c' ∧ c' < N ∧ t.place.toList[i]? = some (way t.mask (knd.hash k) c')) →
      wpAny (model P w) A (setSearchFrom a (.ref x) (knd.hash k) true f stand) Q E { s with toks := tk }
  | 0, c, stand, tk, _, _, h, _ => absurd h (Nat.not_lt_zero _)
  | f + 1, c, stand, tk, est, hc, hf, hi => by
    rw [setSearchFrom_succ]
    refine wpAny_bind (wpAny_state (R.toks tk) ?_)
    dsimp only
    rw [if_neg R.gw]
    generalize hst : runAt t.mask (SetTable.bits (knd.hash k) % (t.mask + 1)) (SetTable.bits (knd.hash k)) = st at *
    have wy : ∀ c, way t.mask (knd.hash k) c = (nth t.mask st c).j := fun c => by rw [← hst]
    have sd : st.dummy = none := by rw [← hst]; rfl
    rw [est]
    have hp : ∀ k', nth t.mask (nth t.mask st c) k' = nth t.mask st (c + k') := fun k' => (nth_add t.mask c st k').symm
    have G := go_spec t R.tab.ris R.tab.dm (fun i => (Option.map (fun x => x.fst) es[i]?).getD 0) (knd.hash k) (10 * SetTable.turns t.mask) (N - c) (nth t.mask st c)
      (nth_dummy _ _ sd c) (by omega) (fun k' hk' => by rw [hp, ← wy]; exact hb _ (by omega)) (by rw [hp, ← wy, show c + (N - c) = N by omega]; exact hN)
    have hash_at : ∀ {i : Nat} {p : Addr × K}, L[i]? = some p → (Option.map (fun x => x.fst) es[i]?).getD 0 = knd.hash p.2 := fun h => by rw [R.entry h]; rfl
    show wpAny (model P w) A (match SetTable.probe.go t (fun i => (Option.map (fun x => x.fst) es[i]?).getD 0) (knd.hash k) (10 * SetTable.turns t.mask) (nth t.mask st c) with | some met => _ | _ => _) Q E _
    rcases G with ⟨k', i, hk', pl, hh, hbef, eg⟩ | ⟨hnone, eg⟩
    · rw [eg]
      dsimp only
      rw [hp] at pl
      obtain ⟨p, ep1⟩ := R.at_place pl
      have ent := R.entry ep1
      have mem : p ∈ L := List.mem_of_getElem? ep1
      have rest : wpAny (model P w) A (searchRest a (.ref x) (knd.hash k) true f es t (nth t.mask (nth t.mask st c) k').j i (nth t.mask (nth t.mask st c) (k' + 1))) Q E { s with toks := tk } := by
        unfold searchRest
        rw [ent]
        dsimp only
        refine wpAny_bind (wpAny_holding (knd.eqB hu (R.tup p mem) hx fun tk2 => ?_))
        refine wpAny_bind (wpAny_state (R.toks tk2) ?_)
        dsimp only
        by_cases q : p.2 = k
        · rw [if_pos (by simp [q])]
          exact wpAny_pure (q1 (List.mem_map.mpr ⟨p, mem, q⟩) tk2)
        · rw [if_neg (by simp [q]), sameMem]
          dsimp only
          rw [if_pos rfl, hp, slot_live R.tab.ris pl]
          dsimp only
          rw [ent]
          dsimp only
          refine wpAny_bind (wpAny_isSame_ref_self ?_)
          refine wpAny_bind (wpAny_pure ?_)
          rw [if_pos rfl]
          dsimp only
          rw [if_neg (by simp [q])]
          refine seek_from hx hu hlt hN hb q1 q2 f (c + k' + 1) _ tk2 ?_ (by omega) (by omega) (fun i' p' e1 e2 => ?_)
          · rw [hst]
            show nth t.mask (nth t.mask st c) (k' + 1) = _
            rw [hp]
            rfl
          · obtain ⟨c', g1, g2, g3⟩ := hi i' p' e1 e2
            refine ⟨c', ?_, g2, g3⟩
            rcases Nat.lt_or_ge c' (c + k' + 1) with z | z
            · exfalso
              rcases Nat.lt_or_eq_of_le (Nat.lt_succ_iff.mp z) with z | z
              · refine hbef (c' - c) i' (by omega) ?_ (by rw [hash_at e1, e2])
                rw [hp, show c + (c' - c) = c' by omega, g3, wy]
              · rw [z, wy] at g3
                have h1 := (List.getElem?_eq_some_iff.mp pl)
                have h2 := (List.getElem?_eq_some_iff.mp g3)
                obtain ⟨l1, v1⟩ := h1
                obtain ⟨l2, v2⟩ := h2
                have ei : i = i' := by
                  have pw := List.pairwise_iff_getElem.mp R.tab.ris
                  rcases Nat.lt_trichotomy i i' with z2 | z2 | z2
                  · have := pw i i' l1 l2 z2
                    omega
                  · exact z2
                  · have := pw i' i l2 l1 z2
                    omega
                subst ei
                rw [ep1] at e1
                injection e1 with e1
                subst e1
                exact q e2
            · exact z
      split
      · refine wpAny_bind (knd.seen (s := { s with toks := tk }) hx (fun y hy => ?_) ?_)
        · obtain ⟨e, he, rfl⟩ := List.mem_map.mp hy
          have he := (Array.mem_filter.mp (Array.mem_toList_iff.mp he)).1
          have he := Array.mem_toList_iff.mpr he
          rw [R.rows] at he
          obtain ⟨p', hp', rfl⟩ := List.mem_map.mp he
          exact ⟨p'.2, p'.1, rfl, R.tup p' hp'⟩
        · rw [if_neg (by decide)]
          exact rest
      · exact rest
    · rw [eg]
      dsimp only
      rw [hp, show c + (N - c) = N by omega, ← wy]
      refine wpAny_pure (q2 (fun z => ?_) tk)
      obtain ⟨p, hp2, e⟩ := List.mem_map.mp z
      obtain ⟨i, l, v⟩ := List.mem_iff_getElem.mp hp2
      have hg : L[i]? = some p := by rw [List.getElem?_eq_getElem l, v]
      obtain ⟨c', g1, g2, g3⟩ := hi i p hg e
      refine hnone (c' - c) i (by omega) ?_ (by rw [hash_at hg, e])
      rw [hp, show c + (c' - c) = c' by omega, g3, wy]
theorem seek_at {x : Addr} {k : K} (hx : knd.is s.heap k x) (hu : A.units + knd.room < cLine) {Q : SetFound → Shared → Prop}
    (q1 : k ∈ L.map (·.2) → ∀ tk, Q (.there none) { s with toks := tk })
    (q2 : ∀ N, k ∉ L.map (·.2) → way t.mask (knd.hash k) N ∉ t.place.toList → (∀ c, c < N → way t.mask (knd.hash k) c ∈ t.place.toList) →
      ∀ tk, Q (.free (way t.mask (knd.hash k) N) false) { s with toks := tk }) :
    wpAny (model P w) A (setSearch a (.ref x) (knd.hash k) true) Q E s := by
  have hl : (L.map fun p => knd.hash p.2).length ≤ t.mask := by rw [List.length_map]; have := R.room; omega
  obtain ⟨N, n1, n2, n3⟩ := R.tab.first hl (knd.hash k)
  have ml := R.tab.mok.le
  have fu : N - 0 < 100000 := by unfold SetTable.turns at n1; omega
  unfold setSearch
  generalize (100000 : Nat) = F at fu ⊢
  refine seek_from R hx hu n1 n2 n3 q1 (fun z tk => q2 N z n2 n3 tk) F 0 none s.toks rfl (Nat.zero_le _) fu (fun i p e1 e2 => ?_)
  have h1 : (L.map fun p => knd.hash p.2)[i]? = some (knd.hash k) := by rw [List.getElem?_map, e1, ← e2]; rfl
  have h2 : i < t.place.toList.length := by
    rw [Array.length_toList, R.tab.sz]
    exact (List.getElem?_eq_some_iff.mp h1).1
  obtain ⟨c, g1, g2⟩ := R.tab.before n2 h1 (List.getElem?_eq_getElem h2)
  exact ⟨c, Nat.zero_le _, g1, by rw [List.getElem?_eq_getElem h2, g2]⟩
end
end
end SG

/-! An element put into a set, and the table laid anew. -/
namespace SG
open PySem PySem.Spec L2
theorem go_pow {n : Nat} (hn : n ≤ 8188) : ∀ (f j : Nat), j ≤ 13 → 13 - j < f → ∃ k, j ≤ k ∧ k ≤ 13 ∧ SetTable.sizeAbove.go n f (2 ^ j) = 2 ^ k ∧ n < 2 ^ k
  | 0, j, _, h => absurd h (Nat.not_lt_zero _)
  | f + 1, j, hj, hf => by
    rw [SetTable.sizeAbove.go]
    by_cases q : 2 ^ j ≤ n
    · rw [if_pos q]
      have : j ≠ 13 := fun z => by rw [z] at q; have : (2 : Nat) ^ 13 = 8192 := rfl; omega
      obtain ⟨k, h1, h2, h3, h4⟩ := go_pow hn f (j + 1) (by omega) (by omega)
      exact ⟨k, by omega, h2, by rw [← h3, Nat.pow_succ], h4⟩
    · rw [if_neg q]
      exact ⟨j, Nat.le_refl _, hj, rfl, by omega⟩
theorem above {n : Nat} (hn : n ≤ 8188) : MaskG (SetTable.sizeAbove n - 1) ∧ n < SetTable.sizeAbove n ∧ SetTable.sizeAbove n ≤ 8192 := by
  obtain ⟨k, h1, h2, h3, h4⟩ := go_pow hn 64 3 (by decide) (by decide)
  have h3 : SetTable.sizeAbove n = 2 ^ k := h3
  rw [h3]
  refine ⟨⟨k, h1, h2, by omega⟩, h4, ?_⟩
  have : 2 ^ k ≤ 2 ^ 13 := Nat.pow_le_pow_right (by decide) h2
  omega
theorem range_get {α : Type} : ∀ (L : List α), (List.range L.length).filterMap (fun i => L[i]?) = L
  | [] => rfl
  | a :: L => by
    rw [List.length_cons, List.range_succ_eq_map, List.filterMap_cons]
    have e0 : (a :: L)[0]? = some a := rfl
    rw [e0]
    dsimp only
    rw [List.filterMap_map]
    congr 1
    exact range_get L
section
variable {P : Program} {w : World} {K : Type} [DecidableEq K] {knd : SKind P w K}
theorem order_rowsG (L : List (Addr × K)) (es : Array (Int × Value)) (order : Array Nat) (hr : es.toList = rowsG knd L) (hp : order.toList.Perm (List.range L.length)) :
    ∃ L2, (order.filterMap fun x => es[x]?).toList = rowsG knd L2 ∧ L2.Perm L ∧
      L2.map (fun p => knd.hash p.2) = order.toList.map fun i => (es.map (·.1)).getD i 0 := by
  have ge : ∀ i, es[i]? = (L[i]?).map fun (p : Addr × K) => (knd.hash p.2, Value.ref p.1) := fun i => by
    rw [← Array.getElem?_toList, hr]
    unfold rowsG
    rw [List.getElem?_map]
  refine ⟨order.toList.filterMap fun i => L[i]?, ?_, ?_, ?_⟩
  · rw [Array.toList_filterMap]
    unfold rowsG
    rw [List.map_filterMap]
    congr 1
    funext i
    exact ge i
  · have := hp.filterMap fun i => L[i]?
    rw [range_get] at this
    exact this
  · have : ∀ l : List Nat, (∀ i ∈ l, i < L.length) → (l.filterMap fun i => L[i]?).map (fun p => knd.hash p.2) = l.map fun i => (es.map (·.1)).getD i 0 := by
      intro l
      induction l with
      | nil => intro _; rfl
      | cons i l ih =>
        intro h
        have hi := h i List.mem_cons_self
        rw [List.filterMap_cons_some (b := L[i]) (List.getElem?_eq_getElem hi), List.map_cons, List.map_cons, ih fun j hj => h j (List.mem_cons_of_mem _ hj)]
        congr 1
        rw [Array.getD_eq_getD_getElem?, Array.getElem?_map, ge, List.getElem?_eq_getElem hi]
        rfl
    exact this _ fun i hi => List.mem_range.mp (hp.mem_iff.mp hi)
theorem keep_same {h h' : Heap} {a : Addr} {o : Obj} (ho : h.get? a = some o) (hs : o.cls = .type "set") (sb : Heap.SameBut a h h') {k : K} {b : Addr} (hk : knd.is h k b) : knd.is h' k b :=
  knd.keep hk fun c o' hc ht => by
    rw [sb.2 c fun z => ?_]
    · exact hc
    · subst z
      rw [ho] at hc
      injection hc with hc
      subst hc
      rw [hs] at ht
      injection ht with ht
      exact absurd ht (by decide)
section
variable {A : Around} {E : Value → Shared → Prop} {s : Shared} {a : Addr} {L : List (Addr × K)} {es : Array (Int × Value)} {ep : Nat} {t : SetTable}
theorem relay_atG {o : Obj} (ho : s.heap.get? a = some o) (hx : o.ExactSet) (hd : o.data = .set es ep t) (hr : es.toList = rowsG knd L) (hsz : t.place.size = es.size)
    (hdm : t.dummies = #[]) (hm : es.size ≤ t.mask) (hnd : (L.map (·.2)).Nodup) (ht : ∀ p ∈ L, knd.is s.heap p.2 p.1) (hpl : t.plain = true)
    (hled : w.params.followText "set-order" = true ∨ t.led = true) (hf : L.length < 2048) (h1 : 1 ≤ L.length) {Q : Unit → Shared → Prop}
    (q : ∀ h' L' es' ep' t', Heap.SameBut a s.heap h' → SetG knd h' a L' es' ep' t' → L'.Perm L → Q () { s with heap := h' }) :
    wpAny (model P w) A (setRelay a (SetTable.grown L.length)) Q E s := by
  have eg : SetTable.grown L.length = L.length * 4 := by unfold SetTable.grown; rw [if_neg (by omega)]
  obtain ⟨M1, M2, M3⟩ := above (n := SetTable.grown L.length) (by rw [eg]; omega)
  have len : es.size = L.length := by rw [← Array.length_toList, hr]; exact List.length_map _
  rw [setRelay_eq]
  refine wpAny_bind (wpAny_setState_of ho hd (by unfold SetTable.fits SetTable.fill; rw [hsz, hdm]; simp; exact hm) ?_)
  dsimp only
  rw [if_neg (by rw [sizeLine_eq]; omega)]
  obtain ⟨t', order, e, pm, T, m1, m2, m3, m4⟩ := relaid_okG t (hs := es.map (·.1)) (wanted := SetTable.grown L.length) rfl M1 (by rw [Array.size_map, len]; omega)
  rw [Array.size_map, len] at pm
  obtain ⟨L2, r1, r2, r3⟩ := order_rowsG L es order hr pm
  rw [e]
  dsimp only
  have sz : (order.filterMap fun x => es[x]?).size = es.size := by
    rw [← Array.length_toList, r1, len]
    unfold rowsG
    rw [List.length_map, r2.length_eq]
  rw [if_neg (by rw [sz]; simp)]
  refine wpAny_bind (wpAny_pure ?_)
  dsimp only
  refine wpAny_storeSet_of ho hd ?_ (by rw [sz, len, sizeLine_eq]; omega)
  have sb := Heap.SameBut.update s.heap a (Obj.putSet (order.filterMap fun x => es[x]?) t')
  have hp : Obj.putSet (order.filterMap fun x => es[x]?) t' o = { o with data := .set (order.filterMap fun x => es[x]?) (ep + 1) t' } := by
    obtain ⟨c, d, dt, sl⟩ := o
    have hd : dt = .set es ep t := hd
    subst hd
    rfl
  have hg := Heap.get?_update_self (Obj.putSet (order.filterMap fun x => es[x]?) t') ho (by
    rw [hp]
    rfl)
  refine q _ L2 _ (ep + 1) t' sb ⟨⟨_, hg, ?_, ?_⟩, r1, by rw [r3]; exact T, (r2.map (·.2)).nodup_iff.mpr hnd, fun p hp2 => keep_same ho hx.1 sb (ht p (r2.mem_iff.mp hp2)), m3.trans hpl, ?_, ?_, by rw [r2.length_eq]; exact hf⟩ r2
  · rw [hp]; exact hx
  · rw [hp]
  · rw [m2]; exact hled
  · rw [m1, r2.length_eq]; rw [eg] at M2 M3 ⊢; omega
end
end
end SG

/-! An element put into a set. -/
namespace SG
open PySem PySem.Spec L2
section
variable {P : Program} {w : World} {K : Type} [DecidableEq K] {knd : SKind P w K}
variable {A : Around} {E : Value → Shared → Prop} {s : Shared} {a : Addr} {L : List (Addr × K)} {es : Array (Int × Value)} {ep : Nat} {t : SetTable}
theorem put_obj (o : Obj) (hd : o.data = .set es ep t) (es' : Array (Int × Value)) (t' : SetTable) : Obj.putSet es' t' o = { o with data := .set es' (ep + 1) t' } := by
  obtain ⟨c, d, dt, sl⟩ := o
  have hd : dt = .set es ep t := hd
  subst hd
  rfl
theorem add_atG (R : SetG knd s.heap a L es ep t) {x : Addr} {k : K} (hx : knd.is s.heap k x) (hu : A.units + knd.room < cLine) (hl : L.length + 1 < 2048) {Q : Bool → Shared → Prop}
    (q : ∀ b h' L' es' ep' t' tk, Heap.SameBut a s.heap h' → SetG knd h' a L' es' ep' t' → (k ∈ L.map (·.2) → L' = L) → (k ∉ L.map (·.2) → L'.Perm ((x, k) :: L)) →
      Q b { s with heap := h', toks := tk }) :
    wpAny (model P w) A (setAddHashed a (.ref x) (knd.hash k)) Q E s := by
  unfold setAddHashed
  refine wpAny_holding ?_
  rw [show (100000 : Nat) = 99999 + 1 from rfl, setAddHashedIn_succ]
  generalize (99999 : Nat) = F
  refine wpAny_bind (wpAny_state R ?_)
  dsimp only
  rw [if_neg (by simp [byScan, Value.scannable])]
  refine wpAny_bind (seek_at R hx hu (fun mem tk => ?_) (fun N nm n2 n3 tk => ?_))
  · exact wpAny_pure (q false s.heap L es ep t tk ⟨rfl, fun _ _ => rfl⟩ R (fun _ => rfl) fun z => absurd mem z)
  · dsimp only
    refine wpAny_bind (wpAny_state (R.toks tk) ?_)
    dsimp only
    obtain ⟨p1, p2, T, p4, p5, p6, p7⟩ := R.tab.put n2 n3
    have pdm := put_dm R.tab.dm (way t.mask (knd.hash k) N)
    have szT := T.sz
    obtain ⟨t1, p0⟩ : ∃ z, t.put (way t.mask (knd.hash k) N) = z := ⟨_, rfl⟩
    generalize ht1 : t.put (way t.mask (knd.hash k) N) = tp at *
    obtain ⟨t1, p⟩ := tp
    dsimp only at p1 T p4 p5 p6 p7 pdm szT ⊢
    rw [← p1] at p2 T szT
    clear p0
    have lenH : (L.map fun p => knd.hash p.2).length = L.length := List.length_map _
    rw [lenH] at p2 p7
    rw [if_pos (p6.trans R.plain)]
    refine wpAny_bind (knd.byVal hx ?_)
    rw [if_pos rfl]
    obtain ⟨o, ho, hxo, hd⟩ := R.ob
    have esz := R.size
    have insL : (SetTable.insertAt es p (knd.hash k, Value.ref x)).toList = rowsG knd (L.take p ++ (x, k) :: L.drop p) := by
      rw [SetTable.toList_insertAt, R.rows]
      unfold rowsG
      rw [List.map_append, List.map_cons, List.map_take, List.map_drop]
    have lenL : (L.take p ++ (x, k) :: L.drop p).length = L.length + 1 := len_ins _ p2 _
    have pmL := put_perm L p (x, k)
    have szI : (SetTable.insertAt es p (knd.hash k, Value.ref x)).size = L.length + 1 := by
      rw [← Array.length_toList, insL]
      unfold rowsG
      rw [List.length_map, lenL]
    have hsL : (L.take p ++ (x, k) :: L.drop p).map (fun p => knd.hash p.2) = (L.map fun p => knd.hash p.2).take p ++ knd.hash k :: (L.map fun p => knd.hash p.2).drop p := by
      rw [List.map_append, List.map_cons, List.map_take, List.map_drop]
    refine wpAny_bind (wpAny_storeSet_of ho hd ?_ (by rw [szI, sizeLine_eq]; omega))
    have sb := Heap.SameBut.update s.heap a (Obj.putSet (SetTable.insertAt es p (knd.hash k, Value.ref x)) t1)
    have po := put_obj o hd (SetTable.insertAt es p (knd.hash k, Value.ref x)) t1
    have hg := Heap.get?_update_self (Obj.putSet (SetTable.insertAt es p (knd.hash k, Value.ref x)) t1) ho (by rw [po]; rfl)
    rw [po] at hg
    have ndL : ((L.take p ++ (x, k) :: L.drop p).map (·.2)).Nodup := by
      rw [(pmL.map (·.2)).nodup_iff, List.map_cons]
      exact List.nodup_cons.mpr ⟨nm, R.nd⟩
    have tupL : ∀ q ∈ (L.take p ++ (x, k) :: L.drop p), knd.is (s.heap.update a (Obj.putSet (SetTable.insertAt es p (knd.hash k, Value.ref x)) t1)) q.2 q.1 := fun q hq => by
      refine keep_same ho hxo.1 sb ?_
      rcases List.mem_cons.mp (pmL.mem_iff.mp hq) with z | z
      · rw [z]; exact hx
      · exact R.tup q z
    have led1 : w.params.followText "set-order" = true ∨ t1.led = true := by rw [p5]; exact R.led
    have plain1 : t1.plain = true := p6.trans R.plain
    have szp : t1.place.size = L.length + 1 := by
      have : t1.fill = t1.place.size + t1.dummies.size := rfl
      rw [pdm] at this
      rw [p7] at this
      exact this.symm
    have few : (L.take p ++ (x, k) :: L.drop p).length < 2048 := by rw [lenL]; exact hl
    by_cases full : t1.tooFull = true
    · rw [if_pos (by rw [full]; rfl)]
      rw [esz, ← lenL]
      refine wpAny_bind (relay_atG (s := { s with heap := s.heap.update a (Obj.putSet (SetTable.insertAt es p (knd.hash k, Value.ref x)) t1), toks := tk }) hg ?_ rfl insL (by rw [szp, szI]) pdm ?_ ndL tupL plain1 led1 few (by rw [lenL]; omega) fun h' L' es' ep' t' sb2 R2 pm2 => ?_)
      · exact hxo
      · have := R.room
        rw [szI, p4]; omega
      · refine wpAny_pure (q true h' L' es' ep' t' tk ⟨sb2.1.trans sb.1, fun b hb => (sb2.2 b hb).trans (sb.2 b hb)⟩ R2 (fun z => absurd z nm) fun _ => pm2.trans pmL)
    · rw [if_neg (by rw [Bool.not_eq_true] at full; rw [full]; decide)]
      refine wpAny_pure (q true _ _ _ (ep + 1) t1 tk sb ⟨⟨_, hg, hxo, rfl⟩, insL, by rw [hsL]; exact T, ndL, tupL, plain1, led1, ?_, few⟩ (fun z => absurd z nm) fun _ => pmL)
      have : ¬ (t1.fill * 5 ≥ t1.mask * 3) := fun z => full (decide_eq_true z)
      rw [p7] at this
      rw [lenL]
      omega
theorem SetG.keep {h h' : Heap} (R : SetG knd h a L es ep t) (ha : ∀ o, h.get? a = some o → h'.get? a = some o) (ht : ∀ p ∈ L, knd.is h' p.2 p.1) : SetG knd h' a L es ep t := by
  obtain ⟨⟨o, ho, hx⟩, h2, h3, h4, h5, h6, h7, h8, h9⟩ := R
  exact ⟨⟨o, ha o ho, hx⟩, h2, h3, h4, ht, h6, h7, h8, h9⟩
/-- what a walk over `ks` has put in after `i` of them -/
structure GotG (ks : List (Addr × K)) (i : Nat) (L : List (Addr × K)) : Prop where
  sub : ∀ p ∈ L, p ∈ ks.take i
  all : ∀ p ∈ ks.take i, p.2 ∈ L.map (·.2)
  len : L.length ≤ i
theorem setG_fresh {h : Heap} (hh : h.get? a = some { cls := .type "set", data := .set #[] 0 (SetTable.fresh 0 0 !w.params.followText "set-order") }) :
    SetG knd h a [] #[] 0 (SetTable.fresh 0 0 !w.params.followText "set-order") :=
  ⟨⟨_, hh, ⟨rfl, rfl, rfl⟩, rfl⟩, rfl, ⟨.nil, rfl, rfl, ⟨3, by decide, by decide, rfl⟩, fun _ z => (nomatch z), fun _ _ _ z _ => (nomatch z)⟩, .nil, fun _ z => (nomatch z), rfl, by
    cases q : w.params.followText "set-order"
    · exact .inr rfl
    · exact .inl rfl, (by decide : 0 * 5 < 7 * 3), (by decide : 0 < 2048)⟩
theorem update_loop {I : Addr} {fp wr : List Addr} {G : Array GenState → Array GenState → Prop} {n : Nat} {Pv : Nat → Value → Prop} {St : Nat → Shared → Prop} {R : Result → Shared → Prop}
    (W : WalksS P w A.in1 I fp wr G n Pv St) (S : Addr) (hS : S ∉ fp) (ks : List (Addr × K)) (hn : n = ks.length) (hf : ks.length < 2048)
    (hv : ∀ i v, Pv i v → ∃ p, ks[i]? = some p ∧ v = .ref p.1) (h0 : Heap) (hk : ∀ p ∈ ks, knd.is h0 p.2 p.1) (hS0 : h0.get? S = none) (hw : ∀ b ∈ wr, h0.get? b = none)
    (hu : A.in1.units + knd.room < cLine) :
    ∀ (k i : Nat) (s : Shared), n - i = k → i ≤ n → St i s → (∀ b o, h0.get? b = some o → s.heap.get? b = some o) →
      (∃ L es ep t, SetG knd s.heap S L es ep t ∧ GotG ks i L) →
      (∀ s' L es ep t, Moved (S :: wr) G s s' → SetG knd s'.heap S L es ep t → GotG ks n L → (∀ b o, h0.get? b = some o → s'.heap.get? b = some o) → R (.ok (.ret .none)) s') →
      codeAny (model P w) A (.builtin "set.update.loop" { pos := [.ref S, .ref I] }) R s := by
  have back : ∀ {s' : Shared} {i : Nat} {L : List (Addr × K)}, GotG ks i L → (∀ b o, h0.get? b = some o → s'.heap.get? b = some o) → ∀ p ∈ L, knd.is s'.heap p.2 p.1 :=
    fun GT hk' p hp => knd.keep (hk p (List.mem_of_mem_take (GT.sub p hp))) fun c o e _ => hk' c o e
  have nS : S ∉ wr := fun z => hS (W.sub S z)
  intro k
  induction k with
  | zero =>
    intro i s e hi st k0 ⟨L, es, ep, t, RS, GT⟩ r
    have : i = n := by omega
    subst this
    refine codeAny_builtin PyProof.Rows.F.entry_set_update_loop ?_
    unfold Builtin.«set.update.loop»
    refine wpAny_bind (W.done s _ _ st fun s' mv => ?_)
    dsimp only
    have k1 : ∀ b o, h0.get? b = some o → s'.heap.get? b = some o := fun b o e => mv.heap b o (fun z => by rw [hw b z] at e; cases e) (k0 b o e)
    exact wpAny_pure (r s' L es ep t ⟨fun b o hb => mv.heap b o fun z => hb (List.mem_cons_of_mem _ z), mv.gens, mv.drawn, mv.os, mv.toks⟩
      (RS.keep (fun o ho => mv.heap S o nS ho) (back GT k1)) GT k1)
  | succ k ih =>
    intro i s e hi st k0 ⟨L, es, ep, t, RS, GT⟩ r
    refine codeAny_builtin PyProof.Rows.F.entry_set_update_loop ?_
    unfold Builtin.«set.update.loop»
    refine wpAny_bind (W.item i s _ _ (by omega) st fun v s1 pv st1 mv => ?_)
    dsimp only
    have k1 : ∀ b o, h0.get? b = some o → s1.heap.get? b = some o := fun b o e => mv.heap b o (fun z => by rw [hw b z] at e; cases e) (k0 b o e)
    have R1 := RS.keep (fun o ho => mv.heap S o nS ho) (back GT k1)
    obtain ⟨p, hp, ev⟩ := hv i v pv
    subst ev
    have hpk : p ∈ ks := List.mem_of_getElem? hp
    have hx : knd.is s1.heap p.2 p.1 := knd.keep (hk p hpk) fun c o e _ => k1 c o e
    have lL := GT.len
    have add : wpAny (model P w) (A.under (.builtin "set.update.loop" { pos := [.ref S, .ref I] })) (holding [.ref p.1] (setAdd S (.ref p.1)))
        (fun _ s2 => ∃ h' L' es' ep' t' tk, s2 = { s1 with heap := h', toks := tk } ∧ Heap.SameBut S s1.heap h' ∧ SetG knd h' S L' es' ep' t' ∧ (p.2 ∈ L.map (·.2) → L' = L) ∧ (p.2 ∉ L.map (·.2) → L'.Perm ((p.1, p.2) :: L)))
        (fun _ _ => False) s1 := by
      refine wpAny_holding ?_
      unfold setAdd
      refine wpAny_holding (wpAny_bind (knd.pyHash hu hx fun tk => ?_))
      exact add_atG (s := { s1 with toks := tk }) R1 hx hu (by omega) fun b h' L' es' ep' t' tk sb R2 c1 c2 => ⟨h', L', es', ep', t', tk, rfl, sb, R2, c1, c2⟩
    refine wpAny_bind (wpAny_mono (wpAny_toks add) (fun b s2 hq => ?_) (fun _ _ z => z.2.elim))
    obtain ⟨htk, h', L', es', ep', t', tk, e2, sb, R2, c1, c2⟩ := hq
    subst e2
    have kp : ∀ b o, h0.get? b = some o → h'.get? b = some o := fun b o e => by
      rw [sb.2 b fun z => by rw [z, hS0] at e; cases e]
      exact k1 b o e
    have GT2 : GotG ks (i + 1) L' := by
      have ts : ks.take (i + 1) = ks.take i ++ [p] := by rw [List.take_succ, hp]; rfl
      by_cases q : p.2 ∈ L.map (·.2)
      · have c1 := c1 q
        subst c1
        exact ⟨fun y hy => by rw [ts]; exact List.mem_append_left _ (GT.sub y hy), fun y hy => by
          rw [ts] at hy
          rcases List.mem_append.mp hy with z | z
          · exact GT.all y z
          · rw [List.mem_singleton.mp z]; exact q, by omega⟩
      · have c2 := c2 q
        refine ⟨fun y hy => ?_, fun y hy => ?_, by rw [c2.length_eq, List.length_cons]; omega⟩
        · rw [ts]
          rcases List.mem_cons.mp (c2.mem_iff.mp hy) with z | z
          · rw [z]; exact List.mem_append_right _ (List.mem_singleton.mpr rfl)
          · exact List.mem_append_left _ (GT.sub y z)
        · rw [(c2.map (·.2)).mem_iff, List.map_cons]
          rw [ts] at hy
          rcases List.mem_append.mp hy with z | z
          · exact List.mem_cons_of_mem _ (GT.all y z)
          · rw [List.mem_singleton.mp z]; exact List.mem_cons_self
    refine wpAny_pure ⟨plainId_quiet PyProof.Rows.F.plain_set_update_loop _, ih (i + 1) _ (by omega) (by omega) ?_ kp ⟨L', es', ep', t', R2, GT2⟩ fun s' L2 es2 ep2 t2 mv2 R3 GT3 k3 => r s' L2 es2 ep2 t2 ?_ R3 GT3 k3⟩
    · exact W.frame (i + 1) s1 h' tk st1 htk fun b hb o hbo => by
        rw [sb.2 b fun z => by rw [z] at hb; exact hS hb]
        exact hbo
    · refine ⟨fun b o hb hbo => ?_, W.gtrans _ _ _ mv.gens mv2.gens, mv2.drawn.trans mv.drawn, mv2.os.trans mv.os, Nat.le_trans mv.toks (Nat.le_trans htk mv2.toks)⟩
      refine mv2.heap b o hb ?_
      show h'.get? b = some o
      rw [sb.2 b fun z => hb (by rw [z]; exact List.mem_cons_self)]
      exact mv.heap b o (fun z => hb (List.mem_cons_of_mem _ z)) hbo
end
end SG

/-! set(list) and set(tuple). -/
namespace SG
open PySem PySem.Spec L2
section
variable {P : Program} {w : World} {K : Type} [DecidableEq K] {knd : SKind P w K}
variable {A : Around} {E : Value → Shared → Prop} {s : Shared}
theorem sub_ls : isSubtype (.type "list") (.type "set") = pure false := rfl
theorem sub_lf : isSubtype (.type "list") (.type "frozenset") = pure false := rfl
theorem sub_ts : isSubtype (.type "tuple") (.type "set") = pure false := rfl
theorem sub_tf : isSubtype (.type "tuple") (.type "frozenset") = pure false := rfl
theorem name_set : typeName (.type "set") = pure "set" := rfl
theorem call_setL {l : Addr} {items : Array Value} (ks : List (Addr × K)) {Q : Value → Shared → Prop} (hh : A.handled = none) (hl : s.heap.IsList l items)
    (hi : items.toList = ks.map fun p => .ref p.1) (hk : ∀ p ∈ ks, knd.is s.heap p.2 p.1) (hf : ks.length < 2048) (hu : A.units + 6 + knd.room < cLine)
    (q : ∀ h' tk L es ep t, SetG knd h' s.heap.objs.size L es ep t → GotG ks ks.length L → (∀ b o, s.heap.get? b = some o → h'.get? b = some o) →
      s.toks ≤ tk → Q (.ref s.heap.objs.size) { s with heap := h', toks := tk }) :
    wpAny (model P w) A (call (.type "set") [.ref l]) Q E s := by
  obtain ⟨ob, hob⟩ : ∃ ob : Obj, ob = { cls := .type "set", data := .set #[] 0 (SetTable.fresh 0 0 !w.params.followText "set-order") } := ⟨_, rfl⟩
  refine wpAny_call (codeAny_of_tree ?_)
  refine wpAny_pure ⟨Code.quiet_builtin _ (by simp), ?_⟩
  refine codeAny_builtin (b := Builtin.«type.__call__») PySem.F.entry_type_call ?_
  unfold Builtin.«type.__call__»
  dsimp only
  rw [if_neg (by rw [PySem.F.called_set.notType]; decide), if_neg (by rw [PySem.F.called_set.canCreate]; decide), PySem.F.typeCall_set_1]
  refine wpAny_bind (wpAny_pure ?_)
  obtain ⟨mc, mt, em⟩ := PySem.F.called_set.mro
  rw [em]
  refine wpAny_bind (wpAny_pure ?_)
  rw [if_neg (by simp), PySem.F.called_set.made]
  refine wpAny_bind (wpAny_pure ?_)
  dsimp only
  refine wpAny_bind (wpAny_pure ?_)
  have hg : (s.heap.push ob).get? s.heap.objs.size = some ob := Heap.get?_push_size _ (by rw [hob]; rfl)
  have ty : ({ s with heap := s.heap.push ob } : Shared).TypeIs (.ref s.heap.objs.size) "set" := by
    exact ⟨ob, hg, by rw [hob]⟩
  refine wpAny_bind (wpAny_holding (wpAny_call (code_set_led1 (Q₁ := _) _ ?_)))
  rw [← hob]
  refine wpAny_bind (wpAny_isInstance ty PySem.F.called_set.sub ?_)
  rw [if_neg (by decide)]
  refine wpAny_bind (wpAny_holding (wpAny_callSpecial?_slot ty PySem.F.called_set.init (wpAny_call (codeAny_call_builtin_at (Code.quiet_builtin _ (by simp)) PySem.F.entry_set_init (check_set_init_1 ty ?_)))))
  unfold Builtin.«set.__init__»
  refine wpAny_bind (m := noKeywords _ _) (wpAny_pure ?_)
  dsimp only
  refine wpAny_bind (m := typeNameOfCut _ _) ?_
  unfold typeNameOfCut shownTypeOf
  refine wpAny_bind (wpAny_bind (wpAny_typeOf ty ?_))
  rw [if_neg (by decide)]
  refine wpAny_pure ?_
  show wpAny _ _ (typeName (.type "set")) _ _ _
  rw [name_set]
  refine wpAny_pure (wpAny_bind (m := checkCount _ _ _ _) (wpAny_pure ?_))
  refine wpAny_bind (m := Builtin.Frozenset.addrOf _) (wpAny_pure ?_)
  have R0 : SetG knd (s.heap.push ob) s.heap.objs.size [] #[] 0 (SetTable.fresh 0 0 !w.params.followText "set-order") := setG_fresh (by rw [hg, hob])
  refine wpAny_bind (m := setUsed _) (wpAny_bind (wpAny_state (s := { s with heap := s.heap.push ob }) R0 (wpAny_pure ?_)))
  rw [if_neg (by intro z; cases z)]
  have lty : ({ s with heap := s.heap.push ob } : Shared).TypeIs (.ref l) "list" := by
    obtain ⟨o, h1, h2, _⟩ := hl
    exact ⟨o, Heap.get?_push_of_some _ h1, h2⟩
  refine wpAny_bind (m := Builtin.Frozenset.updateFrom _ _ _) ?_
  unfold Builtin.Frozenset.updateFrom Builtin.Frozenset.isAnySet
  refine wpAny_bind (m := (PySem.isInstance _ _ <||> PySem.isInstance _ _)) (wpAny_bind (wpAny_isInstance lty sub_ls ?_))
  show wpAny _ _ (PySem.isInstance (.ref l) (.type "frozenset")) _ _ _
  refine wpAny_isInstance lty sub_lf ?_
  rw [if_neg (by decide)]
  refine wpAny_bind (wpAny_typeOf lty ?_)
  rw [if_neg (by decide)]
  have hl2 : (s.heap.push ob).IsList l items := by
    obtain ⟨o, h1, h2⟩ := hl
    exact ⟨o, Heap.get?_push_of_some _ h1, h2⟩
  refine wpAny_bind (wpAny_pyIter_list hl2 ?_)
  refine wpAny_bind (wpAny_runValue ?_)
  have none_of : ∀ b, s.heap.objs.size ≤ b → s.heap.get? b = none := fun b hb => by
    cases q : s.heap.get? b with
    | none => rfl
    | some o => exact absurd (Heap.lt_size q) (Nat.not_lt.mpr hb)
  have ll : l < s.heap.objs.size := by
    obtain ⟨o, h1, _⟩ := hl
    exact Heap.lt_size h1
  have sz1 : (s.heap.push ob).objs.size = s.heap.objs.size + 1 := by
    show (s.heap.objs.push ob).size = _
    exact Array.size_push _
  obtain ⟨I, hI⟩ : ∃ I, I = (s.heap.push ob).objs.size := ⟨_, rfl⟩
  obtain ⟨io, hio⟩ : ∃ io : Obj, io = { cls := .type "list_iterator", data := .fields #[.ref l, .int 0 0] } := ⟨_, rfl⟩
  have ll : @LT.lt Nat _ l s.heap.objs.size := ll
  have eI : @Eq Nat I (s.heap.objs.size + 1) := hI.trans sz1
  have W := (Walks.list (prog := P) (w := w) (A := (((A.under (.builtin "type.__call__" { pos := [.type "set", .ref l] })).under (.builtin "set.__init__" { pos := [.ref s.heap.objs.size, .ref l] })).in1)) hh I l (fun z => by have z : @Eq Nat l I := z; omega) items).toS
  have en : items.size = ks.length := by rw [← Array.length_toList, hi, List.length_map]
  have grow : ∀ b o, s.heap.get? b = some o → ((s.heap.push ob).push io).get? b = some o := fun b o e => Heap.get?_push_of_some _ (Heap.get?_push_of_some _ e)
  have gI : ((s.heap.push ob).push io).get? I = some io := by rw [hI]; exact Heap.get?_push_size _ (by rw [hio]; rfl)
  rw [← hio]
  rw [show ({ s with heap := s.heap.push ob } : Shared).heap.objs.size = I from hI.symm]
  refine update_loop W s.heap.objs.size ?_ ks en hf (fun i v hv => ?_) s.heap hk (none_of _ (Nat.le_refl _)) (fun b hb => ?_) ?_ items.size 0 _ rfl (Nat.zero_le _) ?_ grow
    ⟨[], #[], 0, _, R0.keep (fun o e => Heap.get?_push_of_some _ e) (fun _ z => (nomatch z)), ⟨fun _ z => (nomatch z), fun _ z => (nomatch z), Nat.le_refl _⟩⟩ fun s' L es ep t mv RS GT k0 => ?_
  · intro z
    rcases List.mem_cons.mp z with z | z
    · have z : @Eq Nat s.heap.objs.size I := z
      omega
    · have z : @Eq Nat s.heap.objs.size l := List.mem_singleton.mp z
      omega
  · rw [← Array.getElem?_toList, hi, List.getElem?_map] at hv
    cases q2 : ks[i]? with
    | none => rw [q2] at hv; cases hv
    | some p => rw [q2] at hv; injection hv with hv; exact ⟨p, rfl, hv.symm⟩
  · rw [List.mem_singleton.mp hb]
    exact none_of _ (show @LE.le Nat _ s.heap.objs.size I by omega)
  · show A.units + (Code.builtin "type.__call__" { pos := [.type "set", .ref l] }).cUnits + (Code.builtin "set.__init__" { pos := [.ref s.heap.objs.size, .ref l] }).cUnits + 1 + knd.room < cLine
    rw [units_type_call_type]
    have : (Code.builtin "set.__init__" { pos := [.ref s.heap.objs.size, .ref l] }).cUnits = 1 := rfl
    omega
  · refine ⟨⟨io, gI, by rw [hio], by rw [hio]; rfl⟩, ?_⟩
    obtain ⟨o, h1, h2⟩ := hl
    exact ⟨o, grow _ _ h1, h2⟩
  · dsimp only
    rw [en] at GT
    have es' : s' = { s with heap := s'.heap, toks := s'.toks } := by
      have g1 := mv.gens
      have g2 := mv.drawn
      have g3 := mv.os
      cases s'
      cases g1
      cases g2
      cases g3
      rfl
    refine wpAny_pure (wpAny_pure ?_)
    dsimp only
    rw [if_neg (by decide)]
    refine wpAny_pure ?_
    dsimp only
    rw [es']
    exact q s'.heap s'.toks L es ep t RS GT k0 mv.toks
theorem call_setT {l : Addr} {items : Array Value} (ks : List (Addr × K)) {Q : Value → Shared → Prop} (hh : A.handled = none) (hl : s.heap.IsTuple l items)
    (hi : items.toList = ks.map fun p => .ref p.1) (hk : ∀ p ∈ ks, knd.is s.heap p.2 p.1) (hf : ks.length < 2048) (hu : A.units + 6 + knd.room < cLine)
    (q : ∀ h' tk L es ep t, SetG knd h' s.heap.objs.size L es ep t → GotG ks ks.length L → (∀ b o, s.heap.get? b = some o → h'.get? b = some o) →
      s.toks ≤ tk → Q (.ref s.heap.objs.size) { s with heap := h', toks := tk }) :
    wpAny (model P w) A (call (.type "set") [.ref l]) Q E s := by
  obtain ⟨ob, hob⟩ : ∃ ob : Obj, ob = { cls := .type "set", data := .set #[] 0 (SetTable.fresh 0 0 !w.params.followText "set-order") } := ⟨_, rfl⟩
  refine wpAny_call (codeAny_of_tree ?_)
  refine wpAny_pure ⟨Code.quiet_builtin _ (by simp), ?_⟩
  refine codeAny_builtin (b := Builtin.«type.__call__») PySem.F.entry_type_call ?_
  unfold Builtin.«type.__call__»
  dsimp only
  rw [if_neg (by rw [PySem.F.called_set.notType]; decide), if_neg (by rw [PySem.F.called_set.canCreate]; decide), PySem.F.typeCall_set_1]
  refine wpAny_bind (wpAny_pure ?_)
  obtain ⟨mc, mt, em⟩ := PySem.F.called_set.mro
  rw [em]
  refine wpAny_bind (wpAny_pure ?_)
  rw [if_neg (by simp), PySem.F.called_set.made]
  refine wpAny_bind (wpAny_pure ?_)
  dsimp only
  refine wpAny_bind (wpAny_pure ?_)
  have hg : (s.heap.push ob).get? s.heap.objs.size = some ob := Heap.get?_push_size _ (by rw [hob]; rfl)
  have ty : ({ s with heap := s.heap.push ob } : Shared).TypeIs (.ref s.heap.objs.size) "set" := by
    exact ⟨ob, hg, by rw [hob]⟩
  refine wpAny_bind (wpAny_holding (wpAny_call (code_set_led1 (Q₁ := _) _ ?_)))
  rw [← hob]
  refine wpAny_bind (wpAny_isInstance ty PySem.F.called_set.sub ?_)
  rw [if_neg (by decide)]
  refine wpAny_bind (wpAny_holding (wpAny_callSpecial?_slot ty PySem.F.called_set.init (wpAny_call (codeAny_call_builtin_at (Code.quiet_builtin _ (by simp)) PySem.F.entry_set_init (check_set_init_1 ty ?_)))))
  unfold Builtin.«set.__init__»
  refine wpAny_bind (m := noKeywords _ _) (wpAny_pure ?_)
  dsimp only
  refine wpAny_bind (m := typeNameOfCut _ _) ?_
  unfold typeNameOfCut shownTypeOf
  refine wpAny_bind (wpAny_bind (wpAny_typeOf ty ?_))
  rw [if_neg (by decide)]
  refine wpAny_pure ?_
  show wpAny _ _ (typeName (.type "set")) _ _ _
  rw [name_set]
  refine wpAny_pure (wpAny_bind (m := checkCount _ _ _ _) (wpAny_pure ?_))
  refine wpAny_bind (m := Builtin.Frozenset.addrOf _) (wpAny_pure ?_)
  have R0 : SetG knd (s.heap.push ob) s.heap.objs.size [] #[] 0 (SetTable.fresh 0 0 !w.params.followText "set-order") := setG_fresh (by rw [hg, hob])
  refine wpAny_bind (m := setUsed _) (wpAny_bind (wpAny_state (s := { s with heap := s.heap.push ob }) R0 (wpAny_pure ?_)))
  rw [if_neg (by intro z; cases z)]
  have lty : ({ s with heap := s.heap.push ob } : Shared).TypeIs (.ref l) "tuple" := by
    obtain ⟨o, h1, h2, _⟩ := hl
    exact ⟨o, Heap.get?_push_of_some _ h1, h2⟩
  refine wpAny_bind (m := Builtin.Frozenset.updateFrom _ _ _) ?_
  unfold Builtin.Frozenset.updateFrom Builtin.Frozenset.isAnySet
  refine wpAny_bind (m := (PySem.isInstance _ _ <||> PySem.isInstance _ _)) (wpAny_bind (wpAny_isInstance lty sub_ts ?_))
  show wpAny _ _ (PySem.isInstance (.ref l) (.type "frozenset")) _ _ _
  refine wpAny_isInstance lty sub_tf ?_
  rw [if_neg (by decide)]
  refine wpAny_bind (wpAny_typeOf lty ?_)
  rw [if_neg (by decide)]
  have hl2 : (s.heap.push ob).IsTuple l items := by
    obtain ⟨o, h1, h2⟩ := hl
    exact ⟨o, Heap.get?_push_of_some _ h1, h2⟩
  refine wpAny_bind (wpAny_pyIter_tuple hl2 ?_)
  refine wpAny_bind (wpAny_runValue ?_)
  have none_of : ∀ b, s.heap.objs.size ≤ b → s.heap.get? b = none := fun b hb => by
    cases q : s.heap.get? b with
    | none => rfl
    | some o => exact absurd (Heap.lt_size q) (Nat.not_lt.mpr hb)
  have ll : l < s.heap.objs.size := by
    obtain ⟨o, h1, _⟩ := hl
    exact Heap.lt_size h1
  have sz1 : (s.heap.push ob).objs.size = s.heap.objs.size + 1 := by
    show (s.heap.objs.push ob).size = _
    exact Array.size_push _
  obtain ⟨I, hI⟩ : ∃ I, I = (s.heap.push ob).objs.size := ⟨_, rfl⟩
  obtain ⟨io, hio⟩ : ∃ io : Obj, io = { cls := .type "tuple_iterator", data := .fields #[.ref l, .int 0 0] } := ⟨_, rfl⟩
  have ll : @LT.lt Nat _ l s.heap.objs.size := ll
  have eI : @Eq Nat I (s.heap.objs.size + 1) := hI.trans sz1
  have W := (Walks.tuple (prog := P) (w := w) (A := (((A.under (.builtin "type.__call__" { pos := [.type "set", .ref l] })).under (.builtin "set.__init__" { pos := [.ref s.heap.objs.size, .ref l] })).in1)) hh I l (fun z => by have z : @Eq Nat l I := z; omega) items).toS
  have en : items.size = ks.length := by rw [← Array.length_toList, hi, List.length_map]
  have grow : ∀ b o, s.heap.get? b = some o → ((s.heap.push ob).push io).get? b = some o := fun b o e => Heap.get?_push_of_some _ (Heap.get?_push_of_some _ e)
  have gI : ((s.heap.push ob).push io).get? I = some io := by rw [hI]; exact Heap.get?_push_size _ (by rw [hio]; rfl)
  rw [← hio]
  rw [show ({ s with heap := s.heap.push ob } : Shared).heap.objs.size = I from hI.symm]
  refine update_loop W s.heap.objs.size ?_ ks en hf (fun i v hv => ?_) s.heap hk (none_of _ (Nat.le_refl _)) (fun b hb => ?_) ?_ items.size 0 _ rfl (Nat.zero_le _) ?_ grow
    ⟨[], #[], 0, _, R0.keep (fun o e => Heap.get?_push_of_some _ e) (fun _ z => (nomatch z)), ⟨fun _ z => (nomatch z), fun _ z => (nomatch z), Nat.le_refl _⟩⟩ fun s' L es ep t mv RS GT k0 => ?_
  · intro z
    rcases List.mem_cons.mp z with z | z
    · have z : @Eq Nat s.heap.objs.size I := z
      omega
    · have z : @Eq Nat s.heap.objs.size l := List.mem_singleton.mp z
      omega
  · rw [← Array.getElem?_toList, hi, List.getElem?_map] at hv
    cases q2 : ks[i]? with
    | none => rw [q2] at hv; cases hv
    | some p => rw [q2] at hv; injection hv with hv; exact ⟨p, rfl, hv.symm⟩
  · rw [List.mem_singleton.mp hb]
    exact none_of _ (show @LE.le Nat _ s.heap.objs.size I by omega)
  · show A.units + (Code.builtin "type.__call__" { pos := [.type "set", .ref l] }).cUnits + (Code.builtin "set.__init__" { pos := [.ref s.heap.objs.size, .ref l] }).cUnits + 1 + knd.room < cLine
    rw [units_type_call_type]
    have : (Code.builtin "set.__init__" { pos := [.ref s.heap.objs.size, .ref l] }).cUnits = 1 := rfl
    omega
  · refine ⟨⟨io, gI, by rw [hio], by rw [hio]; rfl⟩, ?_⟩
    obtain ⟨o, h1, h2⟩ := hl
    exact ⟨o, grow _ _ h1, h2⟩
  · dsimp only
    rw [en] at GT
    have es' : s' = { s with heap := s'.heap, toks := s'.toks } := by
      have g1 := mv.gens
      have g2 := mv.drawn
      have g3 := mv.os
      cases s'
      cases g1
      cases g2
      cases g3
      rfl
    refine wpAny_pure (wpAny_pure ?_)
    dsimp only
    rw [if_neg (by decide)]
    refine wpAny_pure ?_
    dsimp only
    rw [es']
    exact q s'.heap s'.toks L es ep t RS GT k0 mv.toks
end
end SG

/-! The kind of flat tuples of whole numbers; sets of them as objects of a heap of words. -/
namespace SG
open PySem PySem.Spec L2
section
variable {P : Program} {w : World}
theorem isT_cls {h : Heap} {k : List Int} {a : Addr} (hk : L2.IsT P w h k a) : ∃ o, h.get? a = some o ∧ o.cls = .type "tuple" := by
  obtain ⟨o, its, n, h1, h2, _⟩ := hk
  exact ⟨o, h1, h2⟩
def flatK (P : Program) (w : World) : SKind P w (List Int) where
  is := fun h k a => L2.IsT P w h k a
  hash := thash P w
  room := 0
  keep := fun {h h' k a} hk f => by
    obtain ⟨o, its, n, h1, h2, h3⟩ := hk
    exact ⟨o, its, n, f a o h1 h2, h2, h3⟩
  pyHash := fun {A E s k a Q} hu hk q => wpAny_pyHash_tuple (by omega) hk (q _)
  eqB := fun {A E s x y a b Q} hu hx hy q => wpAny_eqBool_tuple (by omega) hx hy (q s.toks)
  byVal := fun {A E s k a Q} hk q => hashBy_tup hk q
  seen := fun {A E s k b Q} hk ys hy q => seen_tup hk hy q
end
section
variable {P : Program} {w : World} {K : Type} [DecidableEq K] (knd : SKind P w K)
/-- what a heap says of a set alone, its elements aside -/
def S0G (h : Heap) (a : Addr) (L : List (Addr × K)) : Prop := ∃ es ep t,
  (∃ o, h.get? a = some o ∧ o.ExactSet ∧ o.data = .set es ep t) ∧ es.toList = rowsG knd L ∧ TabG t (L.map fun p => knd.hash p.2) ∧ (L.map (·.2)).Nodup ∧ t.plain = true ∧
  (w.params.followText "set-order" = true ∨ t.led = true) ∧ L.length * 5 < t.mask * 3 ∧ L.length < 2048
variable {knd}
theorem S0G.full {h : Heap} {a : Addr} {L : List (Addr × K)} (S : S0G knd h a L) (ht : ∀ p ∈ L, knd.is h p.2 p.1) : ∃ es ep t, SetG knd h a L es ep t := by
  obtain ⟨es, ep, t, h1, h2, h3, h4, h5, h6, h7, h8⟩ := S
  exact ⟨es, ep, t, h1, h2, h3, h4, ht, h5, h6, h7, h8⟩
theorem SetG.alone {h : Heap} {a : Addr} {L : List (Addr × K)} {es : Array (Int × Value)} {ep : Nat} {t : SetTable} (S : SetG knd h a L es ep t) : S0G knd h a L :=
  ⟨es, ep, t, S.ob, S.rows, S.tab, S.nd, S.plain, S.led, S.room, S.few⟩
variable (knd) in
def SetGO (a : Addr) (L : List (Addr × K)) : HO := .ext fun h => S0G knd h a L
theorem setGO_new {H : Hp} {h : Heap} {a : Addr} {L : List (Addr × K)} (S : S0G knd h a L) : ObjOk P w H h a (SetGO knd a L) := by
  unfold SetGO ObjOk
  refine ⟨S, ?_, fun h1 h2 S1 f => ?_⟩
  · obtain ⟨es, ep, t, ⟨o, ho, _⟩, _⟩ := S
    exact ⟨o, ho⟩
  · obtain ⟨es, ep, t, ⟨o, ho, hx⟩, hr⟩ := S1
    exact ⟨es, ep, t, ⟨o, f o ho, hx⟩, hr⟩
end
end SG

/-! set(list) of objects of a kind, as a rule of calls; sorted of such a set; its length. -/
namespace SG
open PySem PySem.Spec PyProof.Rows L2 Cl
section
variable {X : Cx} {K : Type} [DecidableEq K] (knd : SKind X.prog X.w K) (el : Hp → Addr → K → Prop)
def rSetG : List V → Hp → VK → Prop := fun xs H Q => ∃ (l : Addr) (ks : List (Addr × K)), xs = [.ref l] ∧ SqL X.K H l (ks.map fun p => V.ref p.1) ∧
  (∀ p ∈ ks, el H p.1 p.2) ∧ ks.length < 2048 ∧ ∀ a H' L, Cl.Same H H' → H a = none → H' a = some (SetGO knd a L) → (L.map (·.2)).Nodup → (∀ p ∈ L, p ∈ ks) → (∀ p ∈ ks, p.2 ∈ L.map (·.2)) → Q (.ref a) H'
variable {knd el}
theorem cr_setG (hc : X.calm = true) (hu : X.A.units + 64 < cLine) (hr : knd.room ≤ 50)
    (hel : ∀ {pins σ H s b k}, Inv X pins σ H s → el H b k → knd.is s.heap k b) : CallR X (.type "set") (rSetG knd el) := by
  intro pins s σ H xs us Q I r ⟨l, ks, e, hl, hk, hf, q⟩
  subst e
  rw [Vals.ref1 r]
  obtain ⟨its, rv, hil, hz⟩ := I.list hl
  have ei : its = ks.map fun p => Value.ref p.1 := by
    clear hf hk q hil hz hl
    induction ks generalizing its with
    | nil => cases rv; rfl
    | cons p ks ih =>
      rw [List.map_cons] at rv
      cases rv with
      | cons r0 rr =>
        rw [List.map_cons, ih _ rr]
        congr 1
  refine call_setL (knd := knd) (items := its.toArray) ks (I.ok.hd hc) hil.isList (by simpa using ei) (fun p hp => hel I (hk p hp)) hf (by omega) fun h' tk L es ep t RS GT kp ht => ?_
  have hn : H s.heap.objs.size = none := I.hok.fresh (Nat.le_refl _)
  have J : Inv X pins σ (upd H s.heap.objs.size (SetGO knd s.heap.objs.size L)) { s with heap := h', gens := s.gens, drawn := s.drawn, toks := tk } :=
    I.call (ch := []) (Un.laid kp (Nat.le_refl _) hn) (I.hok.laid kp (Nat.le_refl _) (setGO_new RS.alone)) I.bare (fun _ z => nomatch z)
  refine ⟨.ref s.heap.objs.size, _, J, rfl, q _ _ L (Cl.same_new hn) hn upd_same RS.nd (fun p hp => ?_) fun p hp => ?_⟩
  · exact List.mem_of_mem_take (GT.sub p hp)
  · exact GT.all p (by rw [List.take_length]; exact hp)
end
section
variable {P : Program} {w : World} {K : Type} [DecidableEq K] {knd : SKind P w K} {A : Around} {E : Value → Shared → Prop} {s : Shared} {a : Addr} {L : List (Addr × K)}
  {es : Array (Int × Value)} {ep : Nat} {t : SetTable} {Q : Value → Shared → Prop}
def leG (enc : K → PyData) (q r : Addr × K) : Prop := PySem.W.dataLe false (fun q : Addr × K => enc q.2) q r = true
theorem perm_refs : ∀ {us vs : List Value}, vs.Perm us → ∀ L : List (Addr × K), us = L.map (fun q => Value.ref q.1) → ∃ L1 : List (Addr × K), vs = L1.map (fun q => Value.ref q.1) ∧ L1.Perm L := by
  intro us vs hp
  induction hp with
  | nil =>
    intro L eu
    cases L with
    | nil => exact ⟨[], rfl, .nil⟩
    | cons q L => cases eu
  | @cons x l1 l2 hp ih =>
    intro L eu
    cases L with
    | nil => cases eu
    | cons q L =>
      rw [List.map_cons] at eu
      injection eu with e2 e3
      obtain ⟨L1, e4, p4⟩ := ih L e3
      exact ⟨q :: L1, by rw [List.map_cons, e2, e4], p4.cons q⟩
  | swap x y l =>
    intro L eu
    match L, eu with
    | q :: r :: L, eu =>
      rw [List.map_cons, List.map_cons] at eu
      injection eu with e2 e3
      injection e3 with e3 e4
      exact ⟨r :: q :: L, by rw [List.map_cons, List.map_cons, e2, e3, e4], .swap ..⟩
    | [_], eu => cases eu
    | [], eu => cases eu
  | trans h1 h2 ih1 ih2 =>
    intro L eu
    obtain ⟨L2, e2, p2⟩ := ih2 L eu
    obtain ⟨L1, e1, p1⟩ := ih1 L2 e2
    exact ⟨L1, e1, p1.trans p2⟩
theorem sorted_setG (R : SetG knd s.heap a L es ep t) (hh : A.handled = none) (enc : K → PyData) (dd : Nat) (hrd : ∀ {h k b}, knd.is h k b → Reads h (.ref b) (enc k) [])
    (hal : PySem.W.AllAlike (L.map fun p => enc p.2)) (hso : PySem.W.Sortable (L.map fun p => enc p.2)) (hdp : ∀ p ∈ L, (enc p.2).depth ≤ dd) (hu : A.units + 8 + dd < cLine)
    (hQ : ∀ s' p (out : Array Value) (c : Nat) (L' : List (Addr × K)), (∀ b o, s.heap.get? b = some o → s'.heap.get? b = some o) →
      s'.gens = s.gens → s'.os = s.os → s.heap.objs.size ≤ p → s'.heap.get? p = some (seqObj "list" out c) →
      out.toList = L'.map (fun q => Value.ref q.1) → L'.Perm L → L'.Pairwise (leG enc) → Q (.ref p) s') :
    wpAny (model P w) A (call (.builtin "sorted") [.ref a]) Q E s := by
  obtain ⟨o, ho, hex, hd⟩ := R.ob
  have nfew := R.few
  refine Calls.call_function_entry kind_sorted plain_sorted entry_sorted (args_sorted1 _) ?_
  unfold Builtin.«sorted»
  refine wpAny_bind (m := checkCount "sorted" 1 1 _) (wpAny_pure ?_)
  refine wpAny_bind (collect_set (A := A.in1) hh ⟨o, ho, hex.1, hd⟩ R.fits (by unfold scanBound; have := R.size; omega) R.tab.ris R.led fun s1 vs k1 hz g1 o1 pm => ?_)
  have rows : es.toList.map (·.2) = L.map fun q => Value.ref q.1 := by
    rw [R.rows]
    unfold rowsG
    rw [List.map_map]
    rfl
  rw [rows] at pm
  obtain ⟨L1, e1, p1⟩ := perm_refs pm L rfl
  have n1 : vs.length = L.length := by rw [e1, List.length_map, p1.length_eq]
  have small : vs.length ≤ sizeLine := by rw [sizeLine_eq]; omega
  refine wpAny_bind (wpAny_newList ?_ small)
  have oL : (s1.heap.push (seqObj "list" vs.toArray 0)).get? s1.heap.objs.size = some (seqObj "list" vs.toArray 0) := Heap.get?_push_size _ rfl
  have reads : ∀ q ∈ L, Reads (s1.heap.push (seqObj "list" vs.toArray 0)) (.ref q.1) (enc q.2) [] := fun q hq =>
    hrd (knd.keep (R.tup q hq) fun c o' hc _ => Heap.get?_push_of_some _ (k1 _ _ hc))
  have each : ∀ l : List (Addr × K), (∀ q ∈ l, q ∈ L) → PySem.W.EachIs (fun (v : Value) (q : Addr × K) => v = .ref q.1) (l.map fun q => Value.ref q.1) l ∧
      PySem.W.EachIs (fun v q => ∃ as, Reads (s1.heap.push (seqObj "list" vs.toArray 0)) v ((fun q : Addr × K => enc q.2) q) as ∧ s1.heap.objs.size ∉ as) (l.map fun q => Value.ref q.1) l := by
    intro l
    induction l with
    | nil => intro _; exact ⟨.nil, .nil⟩
    | cons q l ih =>
      intro h
      obtain ⟨i1, i2⟩ := ih fun r hr => h r (List.mem_cons_of_mem _ hr)
      exact ⟨.cons rfl i1, .cons ⟨[], reads q (h q List.mem_cons_self), fun z => nomatch z⟩ i2⟩
  obtain ⟨c1, c2⟩ := each L1 fun q hq => p1.mem_iff.mp hq
  rw [← e1] at c1 c2
  have sub : ∀ d ∈ L1.map (fun q : Addr × K => enc q.2), d ∈ L.map fun p => enc p.2 := fun d hd => ((p1.map fun p : Addr × K => enc p.2).mem_iff).mp hd
  have hso1 : PySem.W.Sortable (L1.map fun q : Addr × K => enc q.2) := by
    rcases hso with h | h
    · exact .inl fun d hd => h d (sub d hd)
    · exact .inr fun d hd => h d (sub d hd)
  refine wpAny_bind (wpAny_holding (PySem.W.list_sort_data (s := { s1 with heap := s1.heap.push (seqObj "list" vs.toArray 0) }) (enc := fun q : Addr × K => enc q.2) oL c1 c2 (fun d hd d' hd' => hal d (sub d hd) d' (sub d' hd')) hso1 (by rw [p1.length_eq, sizeLine_eq]; omega)
    (fun b hb => by have := hdp b (p1.mem_iff.mp hb); show A.units + 1 + 1 + (enc b.2).depth < cLine; omega) fun out a1 a2 => ?_))
  obtain ⟨c, hc⟩ := sortedHeap_at (vs := vs) (out := out.toArray) oL
  have eo : out = (L1.mergeSort (PySem.W.dataLe false fun q : Addr × K => enc q.2)).map fun q => Value.ref q.1 := by
    revert a2
    generalize L1.mergeSort (PySem.W.dataLe false fun q : Addr × K => enc q.2) = M
    intro a2
    clear hc a1
    induction a2 with
    | nil => rfl
    | cons h t ih => rw [List.map_cons, ← ih, h]
  have pM : (L1.mergeSort (PySem.W.dataLe false fun q : Addr × K => enc q.2)).Perm L := (List.mergeSort_perm _ _).trans p1
  have tot : PySem.W.TotalLe (PySem.W.dataLe false fun q : Addr × K => enc q.2) := PySem.W.sortLe_total ..
  have pw : (L1.mergeSort (PySem.W.dataLe false fun q : Addr × K => enc q.2)).Pairwise (leG enc) :=
    List.pairwise_mergeSort tot.trans (fun x y => by rw [Bool.or_eq_true]; exact tot.total x y) L1
  refine wpAny_pure ⟨_, rfl, hQ _ s1.heap.objs.size out.toArray c _ (fun b u e => ?_) g1 o1 hz hc eo pM pw⟩
  have e5 := k1 b u e
  have lt5 := Heap.lt_size e5
  show (sortedHeap (s1.heap.push (seqObj "list" vs.toArray 0)) s1.heap.objs.size vs out.toArray).get? b = some u
  rw [sortedHeap_old (Nat.ne_of_lt lt5) (by rw [show (s1.heap.push (seqObj "list" vs.toArray 0)).objs.size = s1.heap.objs.size + 1 from Array.size_push ..]; exact Nat.lt_succ_of_lt lt5)]
  exact Heap.get?_push_of_some _ e5
end
section
variable {X : Cx} {K : Type} [DecidableEq K] (knd : SKind X.prog X.w K) (el : Hp → Addr → K → Prop) (enc : K → PyData) (dd : Nat)
def rSortedG : List V → Hp → VK → Prop := fun vs H Q => ∃ (a : Addr) (L : List (Addr × K)), vs = [V.ref a] ∧ H a = some (SetGO knd a L) ∧ (∀ p ∈ L, el H p.1 p.2) ∧
  PySem.W.AllAlike (L.map fun p => enc p.2) ∧ PySem.W.Sortable (L.map fun p => enc p.2) ∧ (∀ p ∈ L, (enc p.2).depth ≤ dd) ∧
  ∀ L' : List (Addr × K), L'.Perm L → L'.Pairwise (leG enc) → L.length < 2048 → (L.map (·.2)).Nodup → New H (.lst (L'.map fun q => V.ref q.1)) Q
variable {knd el enc dd}
theorem cr_sortedG (hc : X.calm = true) (hu : X.A.units + 64 < cLine) (hdd : dd ≤ 50) (hrd : ∀ {h k b}, knd.is h k b → Reads h (.ref b) (enc k) [])
    (hel : ∀ {pins σ H s b k}, Inv X pins σ H s → el H b k → knd.is s.heap k b) : CallR X (.builtin "sorted") (rSortedG knd el enc dd) := by
  intro pins s σ H vs us Q I r ⟨a, L, e, ha, hk, h1, h2, h3, q⟩
  subst e
  obtain ⟨es, ep, t, R⟩ := S0G.full (I.hok a _ ha).1 fun p hp => hel I (hk p hp)
  rw [Vals.ref1 r]
  refine sorted_setG R (I.ok.hd hc) enc dd hrd h1 h2 h3 (by omega) fun s' p out c L' k g o hp hg hout pm pw => ?_
  have few : L'.length < 2048 := by rw [pm.length_eq]; exact R.few
  have len : (L'.map fun q => V.ref q.1).length ≤ sizeLine := by rw [List.length_map, sizeLine_eq]; omega
  have hn : H p = none := I.hok.fresh hp
  have vr : ∀ M : List (Addr × K), Vals (M.map fun q => V.ref q.1) (M.map fun q => Value.ref q.1) := fun M => by
    induction M with
    | nil => exact .nil
    | cons q M ih => exact .cons rfl ih
  have hv : Vals (L'.map fun q => V.ref q.1) out.toList := by rw [hout]; exact vr L'
  have J : Inv X pins σ (upd H p (.lst (L'.map fun q => V.ref q.1))) { s with heap := s'.heap, gens := s'.gens, drawn := s'.drawn, toks := s'.toks } :=
    I.call (ch := []) (Un.laid k hp hn) (I.hok.laid k hp ⟨len, out.toList, c, hv, hg⟩) (by rw [g]; exact I.bare) (fun _ z => nomatch z)
  have e : s' = { s with heap := s'.heap, gens := s'.gens, drawn := s'.drawn, toks := s'.toks } := by
    cases s'
    cases s
    cases o
    rfl
  rw [e]
  exact ⟨.ref p, _, J, rfl, (q L' pm pw R.few R.nd).go p hn⟩
end
end SG

/-! sorted(list) and sorted(tuple) of objects of a kind. -/
namespace SG
open PySem PySem.Spec PyProof.Rows L2 Cl
section
variable {P : Program} {w : World} {K : Type} [DecidableEq K] {knd : SKind P w K} {A : Around} {E : Value → Shared → Prop} {s : Shared} {a : Addr} {L : List (Addr × K)}
  {es : Array (Int × Value)} {ep : Nat} {t : SetTable} {Q : Value → Shared → Prop}
theorem sorted_seqG {T : String} {o : Obj} {items : Array Value} {n : Nat} (hT : T = "list" ∨ T = "tuple") (ho : s.heap.get? a = some o) (hcl : o.cls = .type T) (hdt : o.data = .seq items n) (hit : items.toList = L.map fun q => Value.ref q.1) (hlen : L.length ≤ 100000)
    (hh : A.handled = none) (enc : K → PyData) (dd : Nat) (hrd : ∀ {h k b}, knd.is h k b → Reads h (.ref b) (enc k) []) (htup : ∀ p ∈ L, knd.is s.heap p.2 p.1)
    (hal : PySem.W.AllAlike (L.map fun p => enc p.2)) (hso : PySem.W.Sortable (L.map fun p => enc p.2)) (hdp : ∀ p ∈ L, (enc p.2).depth ≤ dd) (hu : A.units + 8 + dd < cLine)
    (hQ : ∀ s' (h1 : Heap) (out : Array Value) (c : Nat) (L' : List (Addr × K)), (∀ b o, s.heap.get? b = some o → h1.get? b = some o) → (∀ b o, h1.get? b = some o → s'.heap.get? b = some o) →
      s'.gens = s.gens → s'.os = s.os → s'.heap.get? h1.objs.size = some (seqObj "list" out c) →
      out.toList = L'.map (fun q => Value.ref q.1) → L'.Perm L → L'.Pairwise (leG enc) → Q (.ref h1.objs.size) s') :
    wpAny (model P w) A (call (.builtin "sorted") [.ref a]) Q E s := by
  refine Calls.call_function_entry kind_sorted plain_sorted entry_sorted (args_sorted1 _) ?_
  unfold Builtin.«sorted»
  refine wpAny_bind (m := checkCount "sorted" 1 1 _) (wpAny_pure ?_)
  have hli : items.size ≤ sizeLine := by rw [← Array.length_toList, hit, List.length_map, sizeLine_eq]; omega
  refine wpAny_bind (wpAny_collect_seq a hT ho hcl hdt (fun h1 k1 => ?_) hli)
  obtain ⟨s1, es1⟩ : ∃ s1 : Shared, s1 = { s with heap := h1 } := ⟨_, rfl⟩
  have k1 : ∀ b o, s.heap.get? b = some o → s1.heap.get? b = some o := by rw [es1]; exact k1
  have g1 : s1.gens = s.gens := by rw [es1]
  have o1 : s1.os = s.os := by rw [es1]
  rw [← es1]
  obtain ⟨vs, ev⟩ : ∃ vs, vs = items.toList := ⟨_, rfl⟩
  rw [← ev]
  have pm : vs.Perm (L.map fun q => Value.ref q.1) := by rw [ev, hit]
  obtain ⟨L1, e1, p1⟩ := perm_refs pm L rfl
  have n1 : vs.length = L.length := by rw [e1, List.length_map, p1.length_eq]
  have small : vs.length ≤ sizeLine := by rw [sizeLine_eq]; omega
  refine wpAny_bind (wpAny_newList ?_ small)
  have oL : (s1.heap.push (seqObj "list" vs.toArray 0)).get? s1.heap.objs.size = some (seqObj "list" vs.toArray 0) := Heap.get?_push_size _ rfl
  have reads : ∀ q ∈ L, Reads (s1.heap.push (seqObj "list" vs.toArray 0)) (.ref q.1) (enc q.2) [] := fun q hq =>
    hrd (knd.keep (htup q hq) fun c o' hc _ => Heap.get?_push_of_some _ (k1 _ _ hc))
  have each : ∀ l : List (Addr × K), (∀ q ∈ l, q ∈ L) → PySem.W.EachIs (fun (v : Value) (q : Addr × K) => v = .ref q.1) (l.map fun q => Value.ref q.1) l ∧
      PySem.W.EachIs (fun v q => ∃ as, Reads (s1.heap.push (seqObj "list" vs.toArray 0)) v ((fun q : Addr × K => enc q.2) q) as ∧ s1.heap.objs.size ∉ as) (l.map fun q => Value.ref q.1) l := by
    intro l
    induction l with
    | nil => intro _; exact ⟨.nil, .nil⟩
    | cons q l ih =>
      intro h
      obtain ⟨i1, i2⟩ := ih fun r hr => h r (List.mem_cons_of_mem _ hr)
      exact ⟨.cons rfl i1, .cons ⟨[], reads q (h q List.mem_cons_self), fun z => nomatch z⟩ i2⟩
  obtain ⟨c1, c2⟩ := each L1 fun q hq => p1.mem_iff.mp hq
  rw [← e1] at c1 c2
  have sub : ∀ d ∈ L1.map (fun q : Addr × K => enc q.2), d ∈ L.map fun p => enc p.2 := fun d hd => ((p1.map fun p : Addr × K => enc p.2).mem_iff).mp hd
  have hso1 : PySem.W.Sortable (L1.map fun q : Addr × K => enc q.2) := by
    rcases hso with h | h
    · exact .inl fun d hd => h d (sub d hd)
    · exact .inr fun d hd => h d (sub d hd)
  refine wpAny_bind (wpAny_holding (PySem.W.list_sort_data (s := { s1 with heap := s1.heap.push (seqObj "list" vs.toArray 0) }) (enc := fun q : Addr × K => enc q.2) oL c1 c2 (fun d hd d' hd' => hal d (sub d hd) d' (sub d' hd')) hso1 (by rw [p1.length_eq, sizeLine_eq]; omega)
    (fun b hb => by have := hdp b (p1.mem_iff.mp hb); show A.units + 1 + 1 + (enc b.2).depth < cLine; omega) fun out a1 a2 => ?_))
  obtain ⟨c, hc⟩ := sortedHeap_at (vs := vs) (out := out.toArray) oL
  have eo : out = (L1.mergeSort (PySem.W.dataLe false fun q : Addr × K => enc q.2)).map fun q => Value.ref q.1 := by
    revert a2
    generalize L1.mergeSort (PySem.W.dataLe false fun q : Addr × K => enc q.2) = M
    intro a2
    clear hc a1
    induction a2 with
    | nil => rfl
    | cons h t ih => rw [List.map_cons, ← ih, h]
  have pM : (L1.mergeSort (PySem.W.dataLe false fun q : Addr × K => enc q.2)).Perm L := (List.mergeSort_perm _ _).trans p1
  have tot : PySem.W.TotalLe (PySem.W.dataLe false fun q : Addr × K => enc q.2) := PySem.W.sortLe_total ..
  have pw : (L1.mergeSort (PySem.W.dataLe false fun q : Addr × K => enc q.2)).Pairwise (leG enc) :=
    List.pairwise_mergeSort tot.trans (fun x y => by rw [Bool.or_eq_true]; exact tot.total x y) L1
  refine wpAny_pure ⟨_, rfl, hQ _ s1.heap out.toArray c _ k1 (fun b u e5 => ?_) g1 o1 hc eo pM pw⟩
  have lt5 := Heap.lt_size e5
  show (sortedHeap (s1.heap.push (seqObj "list" vs.toArray 0)) s1.heap.objs.size vs out.toArray).get? b = some u
  rw [sortedHeap_old (Nat.ne_of_lt lt5) (by rw [show (s1.heap.push (seqObj "list" vs.toArray 0)).objs.size = s1.heap.objs.size + 1 from Array.size_push ..]; exact Nat.lt_succ_of_lt lt5)]
  exact Heap.get?_push_of_some _ e5
end
section
variable {X : Cx} {K : Type} [DecidableEq K] (knd : SKind X.prog X.w K) (el : Hp → Addr → K → Prop) (enc : K → PyData) (dd : Nat)
def rSortedQ : List V → Hp → VK → Prop := fun vs H Q => ∃ (a : Addr) (L : List (Addr × K)), vs = [V.ref a] ∧ (SqL X.K H a (L.map fun q => V.ref q.1) ∨ SqT X.K H a (L.map fun q => V.ref q.1)) ∧ L.length ≤ 100000 ∧ (∀ p ∈ L, el H p.1 p.2) ∧
  PySem.W.AllAlike (L.map fun p => enc p.2) ∧ PySem.W.Sortable (L.map fun p => enc p.2) ∧ (∀ p ∈ L, (enc p.2).depth ≤ dd) ∧
  ∀ L' : List (Addr × K), L'.Perm L → L'.Pairwise (leG enc) → New H (.lst (L'.map fun q => V.ref q.1)) Q
variable {knd el enc dd}
theorem cr_sortedQ (hc : X.calm = true) (hu : X.A.units + 64 < cLine) (hdd : dd ≤ 50) (hrd : ∀ {h k b}, knd.is h k b → Reads h (.ref b) (enc k) [])
    (hel : ∀ {pins σ H s b k}, Inv X pins σ H s → el H b k → knd.is s.heap k b) : CallR X (.builtin "sorted") (rSortedQ (X := X) el enc dd) := by
  intro pins s σ H vs us Q I r ⟨a, L, e, ha, hl, hk, h1, h2, h3, q⟩
  subst e
  rw [Vals.ref1 r]
  have back : ∀ {its : List Value} {M : List (Addr × K)}, Vals (M.map fun q => V.ref q.1) its → its = M.map fun q => Value.ref q.1 := by
    intro its M
    induction M generalizing its with
    | nil => intro h; cases h; rfl
    | cons p M ih => intro h; cases h with | cons r0 rr => rw [List.map_cons, ih rr]; congr 1
  have src : ∃ (T : String) (o : Obj) (items : Array Value) (n : Nat), (T = "list" ∨ T = "tuple") ∧ s.heap.get? a = some o ∧ o.cls = .type T ∧ o.data = .seq items n ∧ items.toList = L.map fun q => Value.ref q.1 := by
    rcases ha with h | h
    · obtain ⟨its, rv, hil, _⟩ := I.list h
      obtain ⟨o, w1, w2, n, w3⟩ := hil.isList
      exact ⟨"list", o, _, n, .inl rfl, w1, w2, w3, by simpa using back rv⟩
    · obtain ⟨its, rv, ⟨o, w1, w2, n, w3⟩, _⟩ := I.tuple h
      exact ⟨"tuple", o, _, n, .inr rfl, w1, w2, w3, by simpa using back rv⟩
  obtain ⟨T, o, items, n, hT, ho, hcl, hdt, hit⟩ := src
  refine sorted_seqG (knd := knd) hT ho hcl hdt hit hl (I.ok.hd hc) enc dd hrd (fun p hp => hel I (hk p hp)) h1 h2 h3 (by omega) fun s' hm out c L' k1 k2 g o hg hout pm pw => ?_
  have I1 : Inv X pins σ H { s with heap := hm, toks := s'.toks } := I.kept k1
  have hn : H hm.objs.size = none := I1.hok.fresh (Nat.le_refl _)
  have len : (L'.map fun q => V.ref q.1).length ≤ sizeLine := by rw [List.length_map, pm.length_eq, sizeLine_eq]; omega
  have vr : ∀ M : List (Addr × K), Vals (M.map fun q => V.ref q.1) (M.map fun q => Value.ref q.1) := fun M => by
    induction M with
    | nil => exact .nil
    | cons q M ih => exact .cons rfl ih
  have hv : Vals (L'.map fun q => V.ref q.1) out.toList := by rw [hout]; exact vr L'
  have J : Inv X pins σ (upd H hm.objs.size (.lst (L'.map fun q => V.ref q.1))) { s with heap := s'.heap, gens := s'.gens, drawn := s'.drawn, toks := s'.toks } :=
    Inv.call (s := { s with heap := hm, toks := s'.toks }) (ch := []) I1 (Un.laid k2 (Nat.le_refl _) hn) (I1.hok.laid k2 (Nat.le_refl _) ⟨len, out.toList, c, hv, hg⟩) (by rw [g]; exact I.bare) (fun _ z => nomatch z)
  have e : s' = { s with heap := s'.heap, gens := s'.gens, drawn := s'.drawn, toks := s'.toks } := by
    cases s'
    cases s
    cases o
    rfl
  rw [e]
  exact ⟨.ref hm.objs.size, _, J, rfl, (q L' pm pw).go _ hn⟩
end
end SG

set_option maxHeartbeats 0
namespace Cl
open PySem PySem.Spec PyProof.Rows L2
def topS (i : Nat) : Stmt := PySem.Challenge.pw_cornerlines_k06_paths_written_and_read.main.body.getD i (.Pass ⟨0, 0, 0, 0⟩)

abbrev sshow_paths : Stmt := topS 6
theorem scshow_paths : FnScope ["paths", "path"] ["paths"] (defScope sshow_paths) := ⟨rfl, rfl, rfl, by decide +kernel, rfl, by decide +kernel, by decide +kernel⟩
abbrev sread_paths : Stmt := topS 7
theorem scread_paths : FnScope ["text", "rows", "row"] ["text"] (defScope sread_paths) := ⟨rfl, rfl, rfl, by decide +kernel, rfl, by decide +kernel, by decide +kernel⟩
abbrev srows_of : Stmt := topS 8
theorem scrows_of : FnScope ["text"] ["text"] (defScope srows_of) := ⟨rfl, rfl, rfl, by decide +kernel, rfl, by decide +kernel, by decide +kernel⟩
abbrev spath_row : Stmt := topS 9
theorem scpath_row : FnScope ["path", "i", "j"] ["path"] (defScope spath_row) := ⟨rfl, rfl, rfl, by decide +kernel, rfl, by decide +kernel, by decide +kernel⟩
abbrev spath_in : Stmt := topS 10
theorem scpath_in : FnScope ["row", "path", "word"] ["row"] (defScope spath_in) := ⟨rfl, rfl, rfl, by decide +kernel, rfl, by decide +kernel, by decide +kernel⟩
abbrev snumbers_in : Stmt := topS 11
theorem scnumbers_in : FnScope ["row", "many", "numbers", "word"] ["row", "many"] (defScope snumbers_in) := ⟨rfl, rfl, rfl, by decide +kernel, rfl, by decide +kernel, by decide +kernel⟩
abbrev snumber_of : Stmt := topS 12
theorem scnumber_of : FnScope ["word", "below", "figures"] ["word"] (defScope snumber_of) := ⟨rfl, rfl, rfl, by decide +kernel, rfl, by decide +kernel, by decide +kernel⟩
abbrev sare_figures : Stmt := topS 13
theorem scare_figures : FnScope ["word"] ["word"] (defScope sare_figures) := ⟨rfl, rfl, rfl, by decide +kernel, rfl, by decide +kernel, by decide +kernel⟩
abbrev s_law_deck : Stmt := topS 15
theorem sc_law_deck : FnScope ["_law_script", "_law_cell"] ["_law_script"] (defScope s_law_deck) := ⟨rfl, rfl, rfl, by decide +kernel, rfl, by decide +kernel, by decide +kernel⟩
abbrev s_law_draw : Stmt := topS 16
theorem sc_law_draw : FnScope ["_law_deck_here", "_law_most", "_law_cell", "_law_number"] ["_law_deck_here", "_law_most"] (defScope s_law_draw) := ⟨rfl, rfl, rfl, by decide +kernel, rfl, by decide +kernel, by decide +kernel⟩
abbrev s_law_whole : Stmt := topS 17
theorem sc_law_whole : FnScope ["_law_deck_here", "_law_way", "_law_turned", "_law_number", "_law_k"] ["_law_deck_here", "_law_way"] (defScope s_law_whole) := ⟨rfl, rfl, rfl, by decide +kernel, rfl, by decide +kernel, by decide +kernel⟩
abbrev s_law_pair : Stmt := topS 18
theorem sc_law_pair : FnScope ["_law_deck_here", "_law_way"] ["_law_deck_here", "_law_way"] (defScope s_law_pair) := ⟨rfl, rfl, rfl, by decide +kernel, rfl, by decide +kernel, by decide +kernel⟩
abbrev s_law_paths : Stmt := topS 19
theorem sc_law_paths : FnScope ["_law_deck_here", "_law_many", "_law_long", "_law_way", "_law_found", "_law_k", "_law_path", "_law_j", "_law_corner"] ["_law_deck_here", "_law_many", "_law_long", "_law_way"] (defScope s_law_paths) := ⟨rfl, rfl, rfl, by decide +kernel, rfl, by decide +kernel, by decide +kernel⟩
abbrev s_law_paths_text : Stmt := topS 20
theorem sc_law_paths_text : FnScope ["_law_paths_here", "_law_rows", "_law_path", "_law_i", "_law_j"] ["_law_paths_here"] (defScope s_law_paths_text) := ⟨rfl, rfl, rfl, by decide +kernel, rfl, by decide +kernel, by decide +kernel⟩
abbrev s_law_far : Stmt := topS 21
theorem sc_law_far : FnScope ["_law_deck_here", "_law_sort", "_law_path", "_law_k"] ["_law_deck_here", "_law_sort"] (defScope s_law_far) := ⟨rfl, rfl, rfl, by decide +kernel, rfl, by decide +kernel, by decide +kernel⟩
abbrev s_law_refused : Stmt := topS 22
theorem sc_law_refused : FnScope ["_law_text", "_law_refused_here"] ["_law_text"] (defScope s_law_refused) := ⟨rfl, rfl, rfl, by decide +kernel, rfl, by decide +kernel, by decide +kernel⟩
abbrev slaw : Stmt := topS 23
theorem sclaw : FnScope ["_law_script", "_law_deck_here", "_law_kept", "_law_turn", "_law_great", "_law_way", "_law_sort", "_law_many", "_law_paths_here", "_law_text", "_law_found", "_law_one"] ["_law_script"] (defScope slaw) := ⟨rfl, rfl, rfl, by decide +kernel, rfl, by decide +kernel, by decide +kernel⟩
structure Bt (mg : Str → Option Value) : Prop where
  len : mg "len" = none
  all : mg "all" = none
  list : mg "list" = none
  sum : mg "sum" = none
  int : mg "int" = none
  repr : mg "repr" = none
  str : mg "str" = none
  range : mg "range" = none
  tuple : mg "tuple" = none
  set : mg "set" = none
  isinstance : mg "isinstance" = none
theorem cut63 {ns : List Int} (h : ns.length ≤ 63) : cutV (ns.map V.int) none (some 63) = ns.map V.int := by
  unfold cutV
  rw [HT.sIx_none, show HT.sIx (ns.map V.int).length (ns.map V.int).length (some 63) = min 63 (ns.map V.int).length from HT.sIx_nat _ _ 63, List.length_map]
  rw [List.drop_zero, List.take_of_length_le (by rw [List.length_map]; omega)]
section
variable {P : Program} {w : World} {K : PySem.W.Frag} {mg : Str → Option Value} {base : Heap}
theorem ok_law_deck {f : Addr} {fd : FuncData} (F : Fun K "_law_deck" "_law_deck" s_law_deck f fd) (T : Bt mg) :
    FnG P w K mg base CX0 1 f fd ["_law_script"] (spDeck K) := by
  refine okG (k := 0) F sc_law_deck (fun vs H Q E h => ?_) (fun cdv A outer s H vs Q E hr h => ?_)
  · obtain ⟨a, ns, rfl, _⟩ := h
    rfl
  · obtain ⟨a, ns, rfl, hS, hlen, q⟩ := h
    refine ⟨_, (pss_one (ps_ret (lstN (pa_cons (pe_revL (pe_callTy call_list_ofN (by rfl) T.list (by decide +kernel) (pa_cons (pe_slice sl_listN (pv 0) po_none (po_some pe_int)) pa_nil))) (pa_cons (pe_op op_add (pe_callB (cr_sum rfl) (by rfl) T.sum (by decide +kernel) (pa_cons (pe_lc (own := [("_law_cell", 1)]) (g := gName 1) (tt := tYes) (by rfl) sc_law_deck.nd (pi_list (pe_slice sl_listN (pv 0) po_none (po_some pe_int))) (blkOk_by (own := [("_law_cell", 1)]) (N := ["_law_script", "_law_cell"]) (sc := defScope s_law_deck) (by decide +kernel)) (fun _ _ _ _ _ => (pg_name (i := 1) sc_law_deck.nd rfl (.inl rfl))) (fun _ _ _ _ _ => pts_nil) (fun _ _ _ _ _ => (pe_op op_mod (pv 1) pe_int))) pa_nil)) (pe_op op_mul pe_int (pe_callB call_len_seq (by rfl) T.len (by decide +kernel) (pa_cons (pe_slice sl_listN (pv 0) po_none (po_some pe_int)) pa_nil)))) (pa_cons pe_int pa_nil)))))), ?_⟩
    -- list(script[:63])[::-1]
    refine ⟨.ref a, rfl, 63, rfl, a, _, rfl, hS, fun p1 H1 n1 s1 g1 => ⟨p1, _, rfl, .inl (.inl (.inl g1)), fun p2 H2 n2 s2 g2 => ⟨p2, _, rfl, .inl (.inl g2), fun l H3 n3 s3 g3 => ?_⟩⟩⟩
    have t3 : Same H H3 := (s1.trans s2).trans s3
    rw [cut63 hlen, ← List.map_reverse] at g3
    -- sum([cell % 1000003 for cell in script[:63]])
    refine ⟨.ref a, rfl, 63, rfl, a, _, rfl, t3.seq hS, fun p4 H4 n4 s4 g4 => ⟨p4, rfl, ⟨_, .inl (.inl g4)⟩, fun p5 n5 => ?_⟩⟩
    rw [cut63 hlen] at g4
    refine lcL (K := K) (a := p4) (xs := ns.map V.int) (fun i H' => Same H4 H' ∧ H' p5 = some (.lst ((ns.take i).map fun z => V.int (z % 1000003)))) n5 (fun H' e1 e2 => ⟨e1, e2⟩) (fun i H' _ z => .inl (.inl (z.1 _ _ g4))) (fun i x H' hx z => ?_) (fun H5 z => ?_)
    · obtain ⟨e1, e2⟩ := z
      rw [List.getElem?_map] at hx
      cases hn : ns[i]? with
      | none => rw [hn] at hx; cases hx
      | some y =>
        rw [hn] at hx
        cases hx
        refine ⟨rfl, _, rfl, _, _, rfl, rfl, (by show (0 : Int) < 1000003; decide), _, e2, ?_, ?_, ?_⟩
        · rw [List.length_map, List.length_take]
          exact small1000 (by omega)
        · intro b o e
          rw [upd_ne (ne_of_none e n5)]
          exact e1 _ _ e
        · rw [upd_same, List.take_add_one, hn, List.map_append]
          rfl
    · obtain ⟨e1, e2⟩ := z
      have l1 : (ns.map V.int).length = ns.length := List.length_map _
      rw [l1, List.take_length] at e2
      have t5 : Same H H5 := (t3.trans s4).trans e1
      refine ⟨p5, ns.map fun z => z % 1000003, rfl, .inl (.inl ?_), .ref a, rfl, 63, rfl, a, _, rfl, t5.seq hS, fun p6 H6 n6 s6 g6 => ?_⟩
      · rw [e2, List.map_map]
        rfl
      refine ⟨p6, _, rfl, .inl (.inl (.inl g6)), _, _, rfl, rfl, .inl (by decide), _, _, rfl, rfl, (by show 3 ≤ sizeLine; decide), fun d H7 n7 s7 g7 => ?_⟩
      have t37 : Same H3 H7 := ((s4.trans e1).trans s6).trans s7
      have hl : H7 l = some (.lst (ns.reverse.map V.int)) := t37 _ _ g3
      exact q d l H7 (((t5.trans s6)).trans s7) ⟨ne_of g7 hl (by intro z; cases hns : ns.reverse with
        | nil => rw [hns] at z; cases z
        | cons y r => rw [hns] at z; cases z), _, _, _, g7, hl, by rw [List.length_reverse]; exact hlen⟩

theorem ok_law_draw {f : Addr} {fd : FuncData} (F : Fun K "_law_draw" "_law_draw" s_law_draw f fd) (T : Bt mg) :
    FnG P w K mg base CX0 1 f fd ["_law_deck_here", "_law_most"] spDraw := by
  refine okG (k := 0) F sc_law_draw (fun vs H Q E h => ?_) (fun cdv A outer s H vs Q E hr h => ?_)
  · obtain ⟨d, l, m, rfl, _⟩ := h
    rfl
  · obtain ⟨d, l, m, rfl, hm, hm2, D, q⟩ := h
    refine ⟨_, (pss_cons (ps_asg (pe_op op_add (pe_ix ix_list (pv 0) pe_int (fun _ _ => rfl)) pe_int) (pg_sub (pv 0) pe_int set_list))
      (pss_cons (ps_set (i := 2) sc_law_draw.nd rfl (.inl rfl) (pe_ix ix_list (pv 0) pe_int (fun _ _ => rfl)))
      (cutS (ps_if (pt_cmpR (op_neD hr.room.units) (pe_ix ix_list (pv 0) pe_int (fun _ _ => rfl)) (lstN pa_nil) (nomark _)) (pss_cons (ps_set (i := 2) sc_law_draw.nd rfl (.inl rfl) (pe_bm0 PySem.F.plainAttrs_list PySem.F.slot_list_pop PySem.F.type_list_pop mt_pop (pe_ix ix_list (pv 0) pe_int (fun _ _ => rfl))))
      (pss_one (ps_if (pt_cmpR op_ge (pv 2) (pe_op op_pow pe_int pe_int) (nomark _)) (pss_cons (ps_expr (pe_bm PySem.F.plainAttrs_list PySem.F.slot_list_append PySem.F.type_list_append mt_append (pe_ix ix_list (pv 0) pe_int (fun _ _ => rfl)) (pa_cons (pe_op op_fdivW (pv 2) (pv 1)) pa_nil)))
      (pss_one (ps_ret (pe_op op_mod (pv 2) (pv 1))))) pss_nil))) pss_nil)
      (pss_cons (ps_set (i := 3) sc_law_draw.nd rfl (.inl rfl) (pe_op op_mod (pe_op op_mul (pe_op op_add (pe_op op_add (pe_op op_mod (pv 2) pe_int) (pe_op op_mul pe_int (pe_ix ix_list (pv 0) pe_int (fun _ _ => rfl)))) pe_int) pe_int) pe_int))
      (pss_cons (ps_set (i := 3) sc_law_draw.nd rfl (.inl rfl) (pe_op op_mod (pe_op op_add (pe_op op_add (pe_op op_mul (pv 3) (pv 3)) (pe_op op_mul pe_int (pe_ix ix_list (pv 0) pe_int (fun _ _ => rfl)))) pe_int) pe_int))
      (pss_one (ps_ret (pe_op op_mod (pe_op op_fdiv (pe_op op_mod (pe_op op_add (pe_op op_mul (pv 3) (pv 3)) pe_int) pe_int) pe_int) (pv 1))))))))), ?_⟩
    obtain ⟨ns, s0, c, h1, h2, h3⟩ := D.ex
    have dl := D.ne
    -- deck[2] = deck[2] + 1
    refine ⟨.ref d, rfl, d, _, 2, .int c, rfl, rfl, .inl (.inl h1), rfl, c, 1, rfl, rfl, .ref d, rfl, d, _, 2, 2, rfl, rfl, h1, rfl, ?_⟩
    generalize hU : upd H d (.lst ([V.ref l, .int s0, .int c].set 2 ((fun i j => V.int (i + j)) c 1))) = H1
    have g1 : H1 d = some (.lst [.ref l, .int s0, .int (c + 1)]) := by rw [← hU]; exact upd_same
    have g2 : H1 l = some (.lst (ns.map V.int)) := by rw [← hU, upd_ne dl.symm]; exact h2
    have g3 : ∀ b o, b ≠ d → b ≠ l → H b = some o → H1 b = some o := fun b o e1 _ e2 => by rw [← hU, upd_ne e1]; exact e2
    clear hU
    have fin : ∀ (ms : List Int) (H2 : Hp), ms.length ≤ 63 → H2 d = some (.lst [.ref l, .int s0, .int (c + 1)]) → H2 l = some (.lst (ms.map V.int)) →
        (∀ b o, b ≠ d → b ≠ l → H b = some o → Keep (H2 b) o) → Step d l H H2 := fun ms H2 e1 e2 e3 e4 => ⟨⟨dl, ms, s0, c + 1, e2, e3, e1⟩, fun b o e => by
          obtain ⟨n1, n2, n3⟩ := hide_at e
          rw [hide_ne n1 n2]
          exact e4 b o n1 n2 n3⟩
    -- cell = deck[1]
    refine ⟨.ref d, rfl, d, _, 1, .int s0, rfl, rfl, .inl (.inl g1), rfl, ?_⟩
    refine ⟨fun σ' H' => ∃ (cell : Int) (y : Option V) (ms : List Int), σ' = [some (.ref d), some (.int m), some (.int cell), y] ∧ ms.length ≤ 63 ∧
      H' d = some (.lst [.ref l, .int s0, .int (c + 1)]) ∧ H' l = some (.lst (ms.map V.int)) ∧ (∀ b o, b ≠ d → b ≠ l → H b = some o → Keep (H' b) o), ?_, ?_⟩
    · -- if deck[0] != []
      refine ⟨.ref d, rfl, d, _, 0, .ref l, rfl, rfl, .inl (.inl g1), rfl, Nat.zero_le _, fun pe HE ne se ge => ?_⟩
      have h1E := se _ _ g1
      have h2E := se _ _ g2
      have h3E : ∀ b o, b ≠ d → b ≠ l → H b = some o → Keep (HE b) o := fun b o e1 e2 e3 => se _ _ (g3 b o e1 e2 e3)
      refine ⟨_, _, .lst (.inl (.inl h2E)) (dpInts ns), .lst (.inl (.inl ge)) .nil, shapedInts ns, rfl, _, rfl, ?_⟩
      show if (!PyData.eqv (.list (ns.map PyData.int)) (.list [])) = true then _ else _
      rw [eqvNil]
      refine ite2 (fun e => ?_) (fun e => ?_)
      · have h0 : ns ≠ [] := fun z => by subst z; exact absurd e (by decide)
        obtain ⟨z, hz⟩ : ∃ z, ns[ns.length - 1]? = some z := by
          have : ns.length - 1 < ns.length := by cases ns with
            | nil => exact absurd rfl h0
            | cons a b => simp
          exact ⟨_, List.getElem?_eq_getElem this⟩
        -- cell = deck[0].pop()
        refine ⟨.ref d, rfl, d, _, 0, .ref l, rfl, rfl, .inl (.inl h1E), rfl, .inl ⟨rfl, _, .inl (.inl h2E)⟩, l, _, .int z, rfl, rfl, h2E, ?_, ?_⟩
        · rw [List.length_map, List.getElem?_map, hz]
          rfl
        have k1 : ns.dropLast.length < 63 := by
          rw [List.length_dropLast]
          have : ns.length ≠ 0 := fun z => h0 (List.length_eq_zero_iff.mp z)
          omega
        generalize hU : upd HE l (.lst (ns.map V.int).dropLast) = H2
        have u1 : H2 d = some (.lst [.ref l, .int s0, .int (c + 1)]) := by rw [← hU, upd_ne dl]; exact h1E
        have u2 : H2 l = some (.lst (ns.dropLast.map V.int)) := by rw [← hU, upd_same, dropLast_map]
        have u3 : ∀ b o, b ≠ d → b ≠ l → H b = some o → Keep (H2 b) o := fun b o e1 e2 e3 => by rw [← hU, upd_ne e2]; exact h3E b o e1 e2 e3
        clear hU
        refine ⟨.int z, rfl, _, _, rfl, rfl, ⟨by decide, by decide, by decide⟩, _, _, rfl, rfl, _, rfl, ite2 (fun e2 => ?_) (fun e2 => ?_)⟩
        · -- deck[0].append(cell // most); return cell % most
          refine ⟨.ref d, rfl, d, _, 0, .ref l, rfl, rfl, .inl (.inl u1), rfl, .inl ⟨rfl, _, .inl (.inl u2)⟩, .int z, rfl, .int m, rfl, _, _, rfl, rfl,
            wide_div (b := 64) hm (by omega) (by decide) (by decide), l, _, _, rfl, rfl, u2, ?_, ?_⟩
          · rw [List.length_map]
            exact small1000 (by omega)
          refine ⟨.int z, rfl, .int m, rfl, _, _, rfl, rfl, hm, q _ _ (Int.emod_nonneg _ (by omega)) (Int.emod_lt_of_pos _ hm) (fin (ns.dropLast ++ [z / m]) _ ?_ ?_ ?_ ?_)⟩
          · rw [List.length_append]; show _ + 1 ≤ 63; omega
          · rw [upd_ne dl]; exact u1
          · rw [upd_same, List.map_append]; rfl
          · intro b o e1 e2 e3
            rw [upd_ne e2]; exact u3 b o e1 e2 e3
        · exact ⟨z, none, ns.dropLast, rfl, by omega, u1, u2, u3⟩
      · exact ⟨s0, none, ns, rfl, h3, h1E, h2E, h3E⟩
    · rintro σ' H' ⟨cell, y, ms, rfl, e1, e2, e3, e4⟩
      have S := fin ms H' e1 e2 e3 e4
      have eD : SqL K H' d [.ref l, .int s0, .int (c + 1)] := .inl (.inl e2)
      refine ⟨_, rfl, _, _, rfl, rfl, (by show (0 : Int) < 2147483629; decide), .ref d, rfl, d, _, 2, .int (c + 1), rfl, rfl, eD, rfl, _, _, rfl, rfl, .inl (by decide),
        _, _, rfl, rfl, _, _, rfl, rfl, _, _, rfl, rfl, .inr (by decide), _, _, rfl, rfl, (by show (0 : Int) < 2147483647; decide), ?_⟩
      refine ⟨_, rfl, _, rfl, _, _, rfl, rfl, .inl (modlt (by decide) (by decide)), .ref d, rfl, d, _, 2, .int (c + 1), rfl, rfl, eD, rfl, _, _, rfl, rfl, .inl (by decide),
        _, _, rfl, rfl, _, _, rfl, rfl, _, _, rfl, rfl, (by show (0 : Int) < 2147483587; decide), ?_⟩
      refine ⟨_, rfl, _, rfl, _, _, rfl, rfl, .inl (modlt (by decide) (by decide)), _, _, rfl, rfl, _, _, rfl, rfl, (by show (0 : Int) < 2147483563; decide),
        _, _, rfl, rfl, ⟨by decide, by decide⟩, .int m, rfl, _, _, rfl, rfl, hm, q _ _ (Int.emod_nonneg _ (by omega)) (Int.emod_lt_of_pos _ hm) S⟩

end

open GxR (TabB TabG)
section
variable {P : Program} {w : World} {K : PySem.W.Frag} {mg : Str → Option Value} {base : Heap}

/-- the error class x of the program -/
structure XC (K : PySem.W.Frag) (mg : Str → Option Value) (x : Str) (C : Addr) : Prop where
  q : PySem.W.excIn K C [.type "ValueError", .type "Exception", .type "BaseException", .type "object"] "ValueError.__new__" = true
  g : mg x = some (.ref C)
  k : PySem.W.keepIn K (.ref C) = true
  b : PySem.W.subIn K (.ref C) (.type "BaseException") = some true
  t : PySem.W.typeIn K (.ref C) = some (.type "type")
  s : PySem.W.subIn K (.ref C) (.ref C) = some true
  e : ExcC K C
theorem XC.ex {K : PySem.W.Frag} {mg : Str → Option Value} {x : Str} {C : Addr} (h : XC K mg x C) : PySem.W.exmOne K (.ref C) (.ref C) = some true := PySem.W.exm_ref h.b h.e.hd h.t h.s

def spWholeA (K : PySem.W.Frag) : Sp := fun vs H Q _ => ∃ v T, vs = [v] ∧ Kd K H v T ∧ Q (.bl (isI v)) H

def oV : Option Int → V
  | some i => .int i
  | none => .non

theorem eqv_pd9 (p q : Pt) : PyData.eqv (pd p) (pd q) = decide (p = q) := by
  rw [show PyData.eqv (pd p) (pd q) = decide (p.1 = q.1 ∧ p.2 = q.2) from eqv_pair _ _ _ _]
  exact decide_eq_decide.mpr Prod.ext_iff.symm

end
end Cl

set_option maxHeartbeats 0
namespace Cl
open PySem PySem.Spec PyProof.Rows L2
open GxR (TabB TabG)
open TL
section
/-! ### numbers written and read -/
def figB (l : List Nat) : Bool := decide (1 ≤ l.length) && (decide (l.length ≤ 30) && (!(decide (l.head? = some 48) && decide (1 < l.length)) && l.all fun c => decide (48 ≤ c) && decide (c ≤ 57)))
def numP (l : List Nat) : Option Int := if l.head? = some 45 then (if figB l.tail = true ∧ l.tail ≠ [48] then some (-(NumText.digitsVal l.tail : Int)) else none) else (if figB l = true then some (NumText.digitsVal l : Int) else none)
def iL (i : Int) : List Nat := if i < 0 then 45 :: numL i.natAbs else numL i.natAbs
theorem tl_int (i : Int) : tl (Str.ofString (toString i)) = iL i := by
  unfold iL
  cases i with
  | ofNat n =>
    rw [if_neg (by show ¬ ((n : Nat) : Int) < 0; omega)]
    exact tl_num n
  | negSucc n =>
    rw [if_pos (Int.negSucc_lt_zero n)]
    show tl (Str.ofString ("-" ++ toString (n + 1))) = 45 :: numL (n + 1)
    have h := tl_num (n + 1)
    rw [tl_ofString] at h
    rw [tl_ofString, String.toList_append, List.map_append, show ("-".toList).map Char.toNat = [45] by decide]
    exact congrArg (45 :: ·) h
theorem numL_zero : ∀ n, (numL n).head? = some 48 → n = 0 := fun n => by
  induction n using Nat.strongRecOn with
  | _ n ih =>
    intro h
    by_cases z : n < 10
    · rw [numL_lt z] at h
      have := Option.some.inj h
      omega
    · rw [numL_step (by omega)] at h
      have ne := numL_ne (n / 10)
      cases e : numL (n / 10) with
      | nil => exact absurd e ne
      | cons c r =>
        rw [e] at h
        have := ih (n / 10) (by omega) (by rw [e]; exact h)
        omega
theorem figB_num {n : Nat} (h : n < 10 ^ 30) : figB (numL n) = true := by
  have h1 : 1 ≤ (numL n).length := List.length_pos_iff.mpr (numL_ne n)
  have h2 := numL_len (by decide) h
  have h3 : (decide ((numL n).head? = some 48) && decide (1 < (numL n).length)) = false := by
    by_cases e : (numL n).head? = some 48
    · rw [numL_zero n e]
      decide
    · rw [decide_eq_false e]
      rfl
  have h4 : ((numL n).all fun c => decide (48 ≤ c) && decide (c ≤ 57)) = true := List.all_eq_true.mpr fun c hc => by
    obtain ⟨a, b⟩ := numL_digits n c hc
    simp [a, b]
  unfold figB
  rw [decide_eq_true h1, decide_eq_true h2, h3, h4]
  rfl
theorem iL_head {i : Int} (h : 0 ≤ i) : (iL i).head? ≠ some 45 := fun z => by
  unfold iL at z
  rw [if_neg (by omega)] at z
  have := numL_free (n := i.natAbs) (s := 45) (.inl (by decide))
  cases e : numL i.natAbs with
  | nil => exact numL_ne _ e
  | cons c r =>
    rw [e] at z this
    have := Option.some.inj z
    simp_all
theorem numP_int {i : Int} (h : i.natAbs < 10 ^ 30) : numP (iL i) = some i := by
  by_cases n : i < 0
  · unfold numP iL
    rw [if_pos n]
    have hz : numL i.natAbs ≠ [48] := fun z => by
      have := numL_inj (m := i.natAbs) (n := 0) (by rw [z]; rfl)
      omega
    rw [if_pos (show (45 :: numL i.natAbs).head? = some 45 from rfl)]
    show (if figB (numL i.natAbs) = true ∧ numL i.natAbs ≠ [48] then _ else none) = _
    rw [if_pos ⟨figB_num h, hz⟩]
    show some (-(NumText.digitsVal (numL i.natAbs) : Int)) = _
    rw [numL_val]
    congr 1
    omega
  · have hh := iL_head (i := i) (by omega)
    unfold numP
    rw [if_neg hh]
    unfold iL
    rw [if_neg n, if_pos (figB_num h), numL_val]
    congr 1
    omega
theorem iL_free {i : Int} {s : Nat} (h : s < 45 ∨ 57 < s) : s ∉ iL i := fun z => by
  unfold iL at z
  split at z
  · rcases List.mem_cons.mp z with z | z
    · omega
    · exact numL_free (by omega) z
  · exact numL_free (by omega) z
theorem iL_len {i : Int} (h : i.natAbs < 10 ^ 30) : (iL i).length ≤ 31 := by
  have := numL_len (n := i.natAbs) (by decide) h
  unfold iL
  split
  · rw [List.length_cons]; omega
  · omega
theorem iL_inj {i j : Int} (hi : i.natAbs < 10 ^ 30) (hj : j.natAbs < 10 ^ 30) (h : iL i = iL j) : i = j := by
  have := numP_int hi
  rw [h, numP_int hj] at this
  exact (Option.some.inj this).symm
/-- what int(w) is -/
theorem num_text {w : Str} {i : Int} (h : numP (tl w) = some i) : intText? w = some i := by
  have dig : ∀ {l : List Nat}, figB l = true → NumText.AllDigits l ∧ l ≠ [] ∧ l.length ≤ 30 := fun {l} e => by
    unfold figB at e
    simp only [Bool.and_eq_true, decide_eq_true_eq, List.all_eq_true] at e
    exact ⟨fun c hc => e.2.2.2 c hc, fun z => by rw [z] at e; exact absurd e.1 (by decide), e.2.1⟩
  unfold numP at h
  split at h
  · rename_i hd
    split at h
    · rename_i hf
      obtain ⟨d1, d2, d3⟩ := dig hf.1
      cases e : tl w with
      | nil => rw [e] at hd; cases hd
      | cons c r =>
        rw [e] at hd h d1 d2 d3
        have := Option.some.inj hd
        subst this
        have := Option.some.inj h
        subst this
        exact intText_neg (x := w) (cs := r) e d1 d2 (by rw [len_tl, e, List.length_cons]; show r.length + 1 ≤ 4300; have : r.length ≤ 30 := d3; omega)
    · cases h
  · split at h
    · rename_i hf
      obtain ⟨d1, d2, d3⟩ := dig hf
      have := Option.some.inj h
      subst this
      exact intText_digits (x := w) d1 d2 (by rw [len_tl]; omega)
    · cases h
theorem num_len {w : Str} {i : Int} (h : numP (tl w) = some i) : w.length ≤ 31 := by
  have ln : ∀ {l : List Nat}, figB l = true → l.length ≤ 30 := fun {l} e => by
    unfold figB at e
    simp only [Bool.and_eq_true, decide_eq_true_eq, List.all_eq_true] at e
    exact e.2.1
  rw [len_tl]
  unfold numP at h
  split at h
  · rename_i hd
    split at h
    · rename_i hf
      have := ln hf.1
      rw [List.length_tail] at this
      omega
    · cases h
  · split at h
    · rename_i hf
      have := ln hf
      omega
    · cases h
/-! ### parts -/
theorem spl_len (S : List Nat) : ∀ (l acc : List Nat) (k : Nat), (spl S k acc l).length ≤ l.length + 1
  | [], acc, k => by rw [spl_nil]; exact Nat.le_refl _
  | c :: r, acc, 0 => by
    show (if pre S (c :: r) = true then acc :: spl S (S.length - 1) [] r else spl S 0 (acc ++ [c]) r).length ≤ r.length + 1 + 1
    split
    · have := spl_len S r [] (S.length - 1)
      rw [List.length_cons]
      omega
    · have := spl_len S r (acc ++ [c]) 0
      omega
  | c :: r, acc, k + 1 => by
    have := spl_len S r acc k
    show (spl S k acc r).length ≤ r.length + 1 + 1
    omega
theorem spl_each (S : List Nat) : ∀ (l acc : List Nat) (k : Nat), ∀ p ∈ spl S k acc l, p.length ≤ acc.length + l.length
  | [], acc, k => fun p hp => by
    rw [spl_nil] at hp
    rw [List.mem_singleton.mp hp]
    exact Nat.le_add_right _ _
  | c :: r, acc, 0 => fun p hp => by
    have hp : p ∈ (if pre S (c :: r) = true then acc :: spl S (S.length - 1) [] r else spl S 0 (acc ++ [c]) r) := hp
    rw [List.length_cons]
    split at hp
    · rcases List.mem_cons.mp hp with rfl | hp
      · omega
      · have := spl_each S r [] (S.length - 1) p hp
        rw [List.length_nil] at this
        omega
    · have := spl_each S r (acc ++ [c]) 0 p hp
      rw [List.length_append, List.length_singleton] at this
      omega
  | c :: r, acc, k + 1 => fun p hp => by
    have := spl_each S r acc k p hp
    rw [List.length_cons]
    omega
theorem spl_ne (S : List Nat) : ∀ (l acc : List Nat) (k : Nat), spl S k acc l ≠ []
  | [], acc, k => by rw [spl_nil]; simp
  | c :: r, acc, 0 => by
    show (if pre S (c :: r) = true then acc :: spl S (S.length - 1) [] r else spl S 0 (acc ++ [c]) r) ≠ []
    split
    · simp
    · exact spl_ne S r (acc ++ [c]) 0
  | c :: r, acc, k + 1 => spl_ne S r acc k
/-- the texts that are cut of one: each with its signs -/
theorem split_tl (a b : Str) (hb : tl b ≠ []) (kb : b.cps.all (· < 256) = true) : (Txt.split a b).map tl = spl (tl b) 0 [] (tl a) := split_spl a b hb (kind_ok kb)
/-- all of them, where none is none -/
def allSome {α : Type} : List (Option α) → Option (List α)
  | [] => some []
  | none :: _ => none
  | some a :: r => match allSome r with
    | some l => some (a :: l)
    | none => none
theorem allSome_map {α : Type} : ∀ l : List α, allSome (l.map some) = some l
  | [] => rfl
  | a :: r => by
    show (match allSome (r.map some) with | some l => some (a :: l) | none => none) = _
    rw [allSome_map r]
theorem allSome_some {α : Type} : ∀ {l : List (Option α)} {xs : List α}, allSome l = some xs → l = xs.map some
  | [], xs, h => by cases h; rfl
  | none :: r, xs, h => by cases h
  | some a :: r, xs, h => by
    cases e : allSome r with
    | none =>
      have h : (match allSome r with | some l => some (a :: l) | none => none) = some xs := h
      rw [e] at h
      cases h
    | some l =>
      have h : (match allSome r with | some l => some (a :: l) | none => none) = some xs := h
      rw [e] at h
      cases h
      rw [List.map_cons, ← allSome_some e]
theorem allSome_none {α : Type} : ∀ {l : List (Option α)}, allSome l = none → none ∈ l
  | [], h => by cases h
  | none :: r, _ => List.mem_cons_self
  | some a :: r, h => by
    cases e : allSome r with
    | none => exact List.mem_cons_of_mem _ (allSome_none e)
    | some l =>
      have h : (match allSome r with | some l => some (a :: l) | none => none) = none := h
      rw [e] at h
      cases h
theorem allSome_mem {α : Type} {l : List (Option α)} (h : none ∈ l) : allSome l = none := by
  cases e : allSome l with
  | none => rfl
  | some xs =>
    rw [allSome_some e] at h
    obtain ⟨_, _, z⟩ := List.mem_map.mp h
    cases z
def numsP (row : List Nat) (m : Int) : Option (List Int) := if (((spl [32] 0 [] row).length : Nat) : Int) = m then allSome ((spl [32] 0 [] row).map numP) else none
def lineP (row : List Nat) : Option Ln := match numsP row 4 with
  | some [x, y, u, v] => if (x, y) ≠ (u, v) then some ((x, y), (u, v)) else none
  | _ => none
def grW : List Nat := [103, 114, 97, 105, 110]
def grainP (row : List Nat) : Option Int := match TL.par [32] [] row with
  | some (w, r) => if w = grW then (match numP r with | some g => if 1 ≤ g then some g else none | none => none) else none
  | none => none
def linesP (t : List Nat) : Option (Int × List Ln) := match spl [10] 0 [] t with
  | [] => none
  | r0 :: rs => match grainP r0 with
    | none => none
    | some g => match allSome (rs.map lineP) with
      | some ls => some (g, ls)
      | none => none
end
end Cl

set_option maxHeartbeats 0
namespace Cl
open PySem PySem.Spec PyProof.Rows L2
open GxR (TabB TabG)
open TL

section
variable {P : Program} {w : World} {K : PySem.W.Frag} {mg : Str → Option Value} {base : Heap}


/-- the program's two words of figures -/
structure GFig (mg : Str → Option Value) : Prop where
  figs : ∃ t, mg "FIGURES" = some (.str "0123456789" t)
  most : ∃ t, mg "MOST_FIGURES" = some (.int 30 t)
theorem starts1 (w : Str) (c : Nat) : Txt.startswith w ⟨#[c]⟩ = decide ((tl w).head? = some c) := by
  obtain ⟨l, rfl⟩ : ∃ l : List Nat, w = ⟨l.toArray⟩ := ⟨tl w, (mk_tl w).symm⟩
  cases l with
  | nil => simp [Txt.startswith, tl, Str.length]
  | cons d r =>
    simp [Txt.startswith, tl, Str.length, Builtin.Str.subAt]
    rfl
theorem tl_cut1 (w : Str) : tl (L2.cutS w (some 1) none) = (tl w).tail := by
  show ((w.cps.toList.drop (HT.sIx w.length 0 (some 1))).take (HT.sIx w.length w.length none - HT.sIx w.length 0 (some 1))) = _
  rw [HT.sIx_none, show HT.sIx w.length 0 (some 1) = min 1 w.length from HT.sIx_nat _ _ 1]
  obtain ⟨l, rfl⟩ : ∃ l : List Nat, w = ⟨l.toArray⟩ := ⟨tl w, (mk_tl w).symm⟩
  cases l with
  | nil => rfl
  | cons d r =>
    show ((d :: r).drop (min 1 (d :: r).toArray.size)).take _ = r
    rw [show min 1 (d :: r).toArray.size = 1 by simp]
    show (r.take ((d :: r).toArray.size - 1)) = r
    rw [List.take_of_length_le (by simp)]
def spFig (K : PySem.W.Frag) (Pf : Addr) : Sp := fun vs H Q _ => ∃ w, vs = [.str w] ∧ TabG H Pf ∧ w.length ≤ 100000 ∧ ∀ H', Same H H' → Q (.bl (figB (tl w))) H'
def spNum5 (K : PySem.W.Frag) (Pf : Addr) : Sp := fun vs H Q _ => ∃ w, vs = [.str w] ∧ TabG H Pf ∧ w.length ≤ 100000 ∧ ∀ H', Same H H' → Q (oV (numP (tl w))) H'

theorem okare_figures {f c Pt : Addr} {fd : FuncData} (F : Fun K "are_figures" "are_figures" sare_figures f fd) (hc : fd.code = .ref c) (TB : GxR.TabB base mg c Pt) (T : Bt mg) (hG : GFig mg) :
    FnG P w K mg base CX0 3 f fd ["word"] (spFig K Pt) := by
  refine okGT (k := 2) F hc scare_figures (fun vs H Q E h => ?_) (fun A outer s H vs Q E hr h => ?_)
  · obtain ⟨w, rfl, _⟩ := h
    rfl
  · obtain ⟨w, rfl, hT, hl, q⟩ := h
    refine ⟨_, (pss_cons (ps_if (pt_not (pt_chain op_le op_le pe_int (pe_callB call_len_str (by rfl) T.len (by decide +kernel) (pa_cons (pv 0) pa_nil)) (pe_glob (v := .int 30) rfl hG.most.choose_spec ⟨_, rfl⟩))) (pss_one (ps_ret pe_bl)) pss_nil)
      (cutS (ps_if (PW.pt (pw_and (pt_val (pe_m1 PySem.F.slot_str_startswith PySem.F.type_str_startswith mt_startswith (pv 0) pe_str)) (pw_and1 (pt_cmpR op_gt (pe_callB call_len_str (by rfl) T.len (by decide +kernel) (pa_cons (pv 0) pa_nil)) pe_int (nomark _))))) (pss_one (ps_ret pe_bl)) pss_nil)
      (pss_one (ps_ret (pe_allI (k := 0) (c := c) (P := Pt) (xs := ["sign"]) (tgw := gName 0) hr (by rfl) T.all TB rfl (genKL_by (sc := defScope sare_figures) (by decide +kernel)) (show ∀ x ∈ (["sign"] : List Str), ¬ x ∈ (["word"] : List Str) from by decide) (show ¬ (".0" : Str) ∈ (["word"] : List Str) from by decide) (pi_str (pv 0)) (fun s1 H1 C code fp => pg_name (i := 0) (show ((["sign"] : List Str) ++ (["word"] : List Str)).Nodup from by decide) rfl (.inl rfl)) (fun s1 H1 C code fp hr2 => (pe_cmpR op_in_sign (pv 0) (pe_glob (v := .str "0123456789") rfl hG.figs.choose_spec ⟨_, rfl⟩) (by rfl)))))))), ?_⟩
    have sz : w.length ≤ sizeLine := Nat.le_trans hl (by decide)
    have no : figB (tl w) = false → ∀ H', Same H H' → Q (.bl false) H' := fun e H' s' => by have := q H' s'; rw [e] at this; exact this
    have lt := len_tl w
    refine ⟨_, rfl, w, rfl, sz, _, _, rfl, rfl, _, rfl, ite2 (fun e1 => ?_) (fun e1 => ?_)⟩
    rotate_left
    · refine ⟨_, rfl, iteT (no ?_ H (.refl _))⟩
      unfold figB
      rw [decide_eq_false (p := 1 ≤ (tl w).length) fun z => e1 (decide_eq_true (by omega))]
      rfl
    have e1 := of_decide_eq_true e1
    refine ⟨_, _, rfl, rfl, _, rfl, ?_⟩
    by_cases e2 : (w.length : Int) ≤ 30
    rotate_left
    · rw [decide_eq_false e2]
      refine iteT (no ?_ H (.refl _))
      unfold figB
      rw [decide_eq_false (p := (tl w).length ≤ 30) (by omega), Bool.false_and, Bool.and_false]
    rw [decide_eq_true e2]
    refine iteF ?_
    refine ⟨fun σ' H' => σ' = [some (.str w)] ∧ H' = H ∧ (decide ((tl w).head? = some 48) && decide (1 < (tl w).length)) = false, ?_, ?_⟩
    · refine ⟨_, rfl, ⟨w, rfl⟩, w, _, rfl, rfl, _, rfl, ?_⟩
      rw [show (("0" : String) : Str) = ⟨#[48]⟩ from rfl, starts1]
      by_cases e3 : (tl w).head? = some 48
      · rw [decide_eq_true e3]
        refine iteT ⟨_, rfl, w, rfl, sz, _, _, rfl, rfl, _, rfl, ?_⟩
        by_cases e4 : (1 : Int) < w.length
        · rw [decide_eq_true e4]
          refine iteT (no ?_ H (.refl _))
          unfold figB
          rw [decide_eq_true e3, decide_eq_true (p := 1 < (tl w).length) (by omega)]
          simp
        · rw [decide_eq_false e4]
          exact iteF ⟨rfl, rfl, by rw [decide_eq_false (p := 1 < (tl w).length) (by omega), Bool.and_false]⟩
      · rw [decide_eq_false e3]
        exact iteF (iteF ⟨rfl, rfl, rfl⟩)
    rintro σ' H' ⟨rfl, rfl, h3⟩
    have all : figB (tl w) = (tl w).all fun c => decide (48 ≤ c) && decide (c ≤ 57) := by
      unfold figB
      rw [h3, decide_eq_true (p := 1 ≤ (tl w).length) (by omega), decide_eq_true (p := (tl w).length ≤ 30) (by omega)]
      simp
    rw [all] at q
    have sgn : ∀ c : Nat, decide (c ∈ (("0123456789" : String) : Str).cps.toList) = (decide (48 ≤ c) && decide (c ≤ 57)) := fun c => by
      rw [show ((("0123456789" : String) : Str).cps.toList) = [48, 49, 50, 51, 52, 53, 54, 55, 56, 57] from rfl]
      rw [Bool.eq_iff_iff]
      simp
      omega
    refine ⟨_, rfl, w, rfl, (tl w).length, fun i => match (tl w)[i]? with | some c => decide (48 ≤ c) && decide (c ≤ 57) | none => true, fun _ H2 => Same H' H2, hT, fun i H2 hi _ => ?_, fun H2 _ => ?_, fun H2 s2 _ => s2, fun i v H2 H3 os hi p y lo => ?_, fun i H2 hi hb p => ?_, fun H2 hb p => ?_⟩
    · show i < w.cps.size
      simpa [tl] using hi
    · show w.cps.size ≤ (tl w).length
      simp [tl]
    · obtain ⟨rfl, c, hc, rfl⟩ := y
      have hc' : (tl w)[i]? = some c := by
        show w.cps.toList[i]? = some c
        rw [Array.getElem?_toList]
        exact hc
      obtain ⟨o1, rfl⟩ : ∃ o1, os = [o1] := by
        match os, lo with
        | [o1], _ => exact ⟨_, rfl⟩
      refine ⟨⟨[_], rfl, rfl⟩, _, rfl, c, _, rfl, rfl, ?_, p⟩
      rw [sgn]
      show V.bl _ = V.bl (match (tl w)[i]? with | some c => decide (48 ≤ c) && decide (c ≤ 57) | none => true)
      rw [hc']
    · have := q H2 p
      rw [show ((tl w).all fun c => decide (48 ≤ c) && decide (c ≤ 57)) = false from Bool.eq_false_iff.mpr fun e => by
        have hb : (match (tl w)[i]? with | some c => decide (48 ≤ c) && decide (c ≤ 57) | none => true) = false := hb
        rw [List.getElem?_eq_getElem hi] at hb
        have := List.all_eq_true.mp e _ (List.getElem_mem hi)
        rw [show (decide (48 ≤ (tl w)[i]) && decide ((tl w)[i] ≤ 57)) = false from hb] at this
        cases this] at this
      exact this
    · have := q H2 p
      rw [show ((tl w).all fun c => decide (48 ≤ c) && decide (c ≤ 57)) = true from List.all_eq_true.mpr fun c hc => by
        obtain ⟨i, hi, ei⟩ := List.getElem_of_mem hc
        have this : (match (tl w)[i]? with | some c => decide (48 ≤ c) && decide (c ≤ 57) | none => true) = true := hb i hi
        rw [List.getElem?_eq_getElem hi, ei] at this
        exact this] at this
      exact this

end
end Cl

set_option maxHeartbeats 0
namespace Cl
open PySem PySem.Spec PyProof.Rows L2
open GxR (TabB TabG)
open TL

section
variable {P : Program} {w : World} {K : PySem.W.Frag} {mg : Str → Option Value} {base : Heap}

theorem oknumber_of {f Pt : Addr} {fd : FuncData} (F : Fun K "number_of" "number_of" snumber_of f fd) (T : Bt mg) (hG : GFig mg) (Dare_figures : Def P w K mg base 3 "are_figures" ["word"] (spFig K Pt)) :
    FnG P w K mg base CX0 4 f fd ["word"] (spNum5 K Pt) := by
  refine okG (k := 3) F scnumber_of (fun vs H Q E h => ?_) (fun cdv A outer s H vs Q E hr h => ?_)
  · obtain ⟨w, rfl, _⟩ := h
    rfl
  · obtain ⟨w, rfl, hT, hl, q⟩ := h
    refine ⟨_, (pss_cons (ps_set (i := 1) scnumber_of.nd rfl (.inl rfl) (pe_m1 PySem.F.slot_str_startswith PySem.F.type_str_startswith mt_startswith (pv 0) pe_str))
      (pss_cons (ps_set (i := 2) scnumber_of.nd rfl (.inl rfl) (pe_ifExp (pt_val (pv 1)) (pe_slice sl_str (pv 0) (po_some pe_int) po_none) (pv 0)))
      (pss_cons (ps_if (PW.pt (pw_or (pt_not (pt_val (callD Dare_figures (hr.mono (by decide)) (pa_cons (pv 2) pa_nil)))) (pw_or1 (PW.pt (pw_and (pt_val (pv 1)) (pw_and1 (pt_cmpR op_eq (pv 2) pe_str (nomark _)))))))) (pss_one (ps_ret pe_non)) pss_nil)
      (pss_one (ps_ret (pe_callTy call_int_str (by rfl) T.int (by decide +kernel) (pa_cons (pv 0) pa_nil))))))), ?_⟩
    have sz : w.length ≤ sizeLine := Nat.le_trans hl (by decide)
    have lt := len_tl w
    refine ⟨_, rfl, ⟨w, rfl⟩, w, _, rfl, rfl, ?_⟩
    rw [show (("-" : String) : Str) = ⟨#[45]⟩ from rfl, starts1]
    by_cases hd : (tl w).head? = some 45
    · rw [decide_eq_true hd]
      refine ⟨_, rfl, _, rfl, iteT ⟨_, rfl, ⟨_, rfl, w, rfl, sz, ?_⟩⟩⟩
      obtain ⟨w2, hw2⟩ : ∃ w2, w2 = L2.cutS w (some 1) none := ⟨_, rfl⟩
      have t2 : tl w2 = (tl w).tail := by rw [hw2]; exact tl_cut1 w
      rw [← hw2]
      have l2 : w2.length ≤ 100000 := by rw [len_tl, t2, List.length_tail]; omega
      refine ⟨_, rfl, w2, rfl, hT, l2, fun H1 s1 => ⟨_, rfl, ?_⟩⟩
      have qq := q H1 s1
      unfold numP at qq
      rw [if_pos hd] at qq
      rw [t2]
      cases hf : figB (tl w).tail with
      | false =>
        rw [if_neg (by rw [hf]; exact fun z => absurd z.1 (by decide))] at qq
        exact iteT (iteT qq)
      | true =>
        refine iteF ⟨_, rfl, _, rfl, iteT ⟨_, rfl, rfl, _, rfl, ?_⟩⟩
        by_cases e : (tl w).tail = [48]
        · rw [decide_eq_true (show V.str w2 = V.str (("0" : String) : Str) from congrArg V.str (ext_tl (t2.trans e)))]
          rw [if_neg fun z => z.2 e] at qq
          exact iteT qq
        · rw [decide_eq_false (show ¬ V.str w2 = V.str (("0" : String) : Str) from fun z => e (by rw [← t2, V.str.inj z]; rfl))]
          rw [if_pos ⟨hf, e⟩] at qq
          have hn : numP (tl w) = some (-(NumText.digitsVal (tl w).tail : Int)) := by
            unfold numP
            rw [if_pos hd, if_pos ⟨hf, e⟩]
          exact iteF ⟨_, rfl, w, _, rfl, num_text hn, Nat.le_trans (num_len hn) (by decide), qq⟩
    · rw [decide_eq_false hd]
      refine ⟨_, rfl, _, rfl, iteF ⟨_, rfl, ?_⟩⟩
      refine ⟨_, rfl, w, rfl, hT, hl, fun H1 s1 => ⟨_, rfl, ?_⟩⟩
      have qq := q H1 s1
      unfold numP at qq
      rw [if_neg hd] at qq
      cases hf : figB (tl w) with
      | false =>
        rw [hf, if_neg (by decide)] at qq
        exact iteT (iteT qq)
      | true =>
        rw [hf, if_pos rfl] at qq
        have hn : numP (tl w) = some (NumText.digitsVal (tl w) : Int) := by
          unfold numP
          rw [if_neg hd, hf, if_pos rfl]
        refine iteF ⟨_, rfl, _, rfl, iteF (iteF ?_)⟩
        exact ⟨_, rfl, w, _, rfl, num_text hn, Nat.le_trans (num_len hn) (by decide), qq⟩

end
end Cl

set_option maxHeartbeats 0
namespace Cl
open PySem PySem.Spec PyProof.Rows L2
open GxR (TabB TabG)
open TL

section
variable {P : Program} {w : World} {K : PySem.W.Frag} {mg : Str → Option Value} {base : Heap}


theorem kb32 : (((" " : String) : Str).cps.all (· < 256)) = true := by decide +kernel
theorem kb10 : ((("\n" : String) : Str).cps.all (· < 256)) = true := by decide +kernel
def spNums (K : PySem.W.Frag) (CT Pf : Addr) : Sp := fun vs H Q E => ∃ (row : Str) (m : Int), vs = [.str row, .int m] ∧ TabG H Pf ∧ row.length ≤ 100000 ∧
  (∀ ns p H', numsP (tl row) m = some ns → Same H H' → SqT K H' p (ns.map V.int) → Q (.ref p) H') ∧ (∀ H', numsP (tl row) m = none → Same H H' → E (.ref CT) none H')
theorem oV_flat (l : List (Option Int)) : (l.map oV).all flatV = true := List.all_eq_true.mpr fun x hx => by
  obtain ⟨o, _, rfl⟩ := List.mem_map.mp hx
  cases o <;> rfl
theorem inV_none (l : List (Option Int)) : inV .non (l.map oV) = decide (none ∈ l) := by
  rw [Bool.eq_iff_iff]
  unfold inV
  simp only [List.any_eq_true, decide_eq_true_eq]
  constructor
  · rintro ⟨y, hy, e⟩
    obtain ⟨o, ho, rfl⟩ := List.mem_map.mp hy
    cases o with
    | none => exact ho
    | some i => cases e
  · intro h
    exact ⟨_, List.mem_map.mpr ⟨none, h, rfl⟩, rfl⟩
theorem split_sz {a b : Str} (hb : tl b ≠ []) (kb : b.cps.all (· < 256) = true) : (Txt.split a b).length ≤ a.length + 1 ∧ ∀ p ∈ Txt.split a b, p.length ≤ a.length := by
  have e := split_tl a b hb kb
  constructor
  · have := spl_len (tl b) (tl a) [] 0
    rw [← e, List.length_map] at this
    rw [len_tl]
    exact this
  · intro p hp
    have := spl_each (tl b) (tl a) [] 0 (tl p) (by rw [← e]; exact List.mem_map.mpr ⟨p, hp, rfl⟩)
    rw [List.length_nil] at this
    rw [len_tl, len_tl]
    omega

theorem oknumbers_in {f Pt : Addr} {fd : FuncData} (F : Fun K "numbers_in" "numbers_in" snumbers_in f fd) (T : Bt mg) {CT : Addr} (hX : XC K mg "NoText" CT) (Dnumber_of : Def P w K mg base 4 "number_of" ["word"] (spNum5 K Pt)) :
    FnG P w K mg base (L2.CX P w) 5 f fd ["row", "many"] (spNums K CT Pt) := by
  refine okGX (k := 4) F scnumbers_in (fun vs H Q E h => ?_) (fun cdv A outer s H vs Q E hr h => ?_)
  · obtain ⟨row, m, rfl, _⟩ := h
    rfl
  · obtain ⟨row, m, rfl, hT, hl, q, e⟩ := h
    refine ⟨_, (pss_cons (ps_set (i := 2) scnumbers_in.nd rfl (.inl rfl) (pe_callTy call_tuple_ofN (by rfl) T.tuple (by decide +kernel) (pa_cons (pe_lc (own := [("word", 3)]) (g := gName 3) (tt := tYes) (by rfl) scnumbers_in.nd (pi_list (pe_split (pv 0) pe_str)) (blkOk_by (own := [("word", 3)]) (N := ["row", "many", "numbers", "word"]) (sc := defScope snumbers_in) (by decide +kernel)) (fun _ _ _ _ _ => (pg_name (i := 3) scnumbers_in.nd rfl (.inl rfl))) (fun _ _ _ _ _ => pts_nil) (fun _ _ _ _ _ => (callD Dnumber_of (hr.mono (by decide)) (pa_cons (pv 3) pa_nil)))) pa_nil)))
      (pss_cons (ps_if (PW.pt (pw_or (pt_cmpR op_ne (pe_callB call_len_seq (by rfl) T.len (by decide +kernel) (pa_cons (pv 2) pa_nil)) (pv 1) (nomark _)) (pw_or1 (pt_cmpR op_in_seq pe_non (pv 2) (by rfl))))) (pss_one (ps_raise rfl (takes_of rfl rfl rfl rfl) (pmk_own PySem.F.excBase_ValueError hX.q hX.g hX.k (raises_own hX.b hX.t) rfl))) pss_nil)
      (pss_one (ps_ret (pv 2))))), ?_⟩
    have sz : row.length + 2 ≤ sizeLine := Nat.le_trans (Nat.add_le_add_right hl 2) (by decide)
    obtain ⟨sz1, sz2⟩ := split_sz (a := row) (b := ((" " : String) : Str)) (by decide) kb32
    have e32 := split_tl row ((" " : String) : Str) (by decide) kb32
    obtain ⟨ys, hys⟩ : ∃ ys, ys = Txt.split row ((" " : String) : Str) := ⟨_, rfl⟩
    rw [← hys] at sz1 sz2 e32
    refine ⟨_, rfl, ⟨row, rfl⟩, row, _, rfl, rfl, rfl, sz, ?_⟩
    rw [← hys]
    intro p1 n1
    have s1 : Same H (upd H p1 (.lst (ys.map V.str))) := same_new n1
    have e1 : upd H p1 (.lst (ys.map V.str)) p1 = some (.lst (ys.map V.str)) := upd_same
    generalize upd H p1 (.lst (ys.map V.str)) = H1 at s1 e1 ⊢
    refine ⟨p1, rfl, ⟨_, .inl (.inl e1)⟩, fun pD nD => ?_⟩
    refine lcL (K := K) (a := p1) (xs := ys.map V.str) (fun i H' => Same H1 H' ∧ H' pD = some (.lst ((ys.take i).map fun y => oV (numP (tl y))))) nD (fun H' e1 e2 => ⟨e1, e2⟩) (fun i H' _ z => .inl (.inl (show H' p1 = some (.lst (ys.map V.str)) from z.1 _ _ e1))) (fun i z H' hz w => ?_) (fun H6 z => ?_)
    · obtain ⟨t1, t2⟩ := w
      rw [List.getElem?_map] at hz
      obtain ⟨y, hy, rfl⟩ := Option.map_eq_some_iff.mp hz
      have ly := sz2 y (List.mem_of_getElem? hy)
      refine ⟨rfl, _, rfl, y, rfl, (s1.trans t1).tab hT, by omega, fun H7 s7 => ?_⟩
      have t2' := s7 _ _ t2
      refine ⟨_, t2', ?_, fun b' o z => ?_, ?_⟩
      · rw [List.length_map, List.length_take]
        exact Nat.lt_of_lt_of_le (show min i ys.length < 100002 by omega) (by decide)
      · rw [upd_ne (ne_of_none z nD)]
        exact (t1.trans s7) _ _ z
      · rw [List.take_add_one, hy, List.map_append]
        exact upd_same
    obtain ⟨t1, t2⟩ := z
    rw [List.length_map, List.take_length] at t2
    have e0 : (ys.map fun y => oV (numP (tl y))) = ((ys.map tl).map numP).map oV := by rw [List.map_map, List.map_map]; rfl
    have e1' : (ys.map tl) = spl [32] 0 [] (tl row) := e32
    rw [e0, e1'] at t2
    obtain ⟨os, hos⟩ : ∃ os, os = (spl [32] 0 [] (tl row)).map numP := ⟨_, rfl⟩
    rw [← hos] at t2
    refine ⟨pD, _, rfl, .inl (.inl t2), fun pU HU nU sU eU => ?_⟩
    have SU := s1.trans (t1.trans sU)
    have np : numsP (tl row) m = if ((os.length : Nat) : Int) = m then allSome os else none := by
      unfold numsP
      rw [hos, List.length_map]
    rw [np] at q e
    refine ⟨_, rfl, pU, _, rfl, .inr (.inl (.inl eU)), _, rfl, rfl, _, rfl, ?_⟩
    rw [List.length_map]
    by_cases hm : ((os.length : Nat) : Int) = m
    · rw [if_pos hm] at q e
      rw [show (!decide (V.int ((os.length : Nat) : Int) = V.int m)) = false by rw [hm]; simp]
      refine iteF ⟨_, rfl, pU, _, rfl, .inr (.inl (.inl eU)), rfl, oV_flat os, _, rfl, ?_⟩
      rw [if_neg (by decide), inV_none]
      cases ha : allSome os with
      | none =>
        rw [decide_eq_true (allSome_none ha)]
        exact iteT (e HU ha SU)
      | some ns =>
        have ho := allSome_some ha
        rw [decide_eq_false fun z => by rw [allSome_mem z] at ha; cases ha]
        refine iteF ⟨_, rfl, q ns pU HU ha SU (.inl (.inl ?_))⟩
        rw [ho, List.map_map] at eU
        exact eU
    · rw [if_neg hm] at e
      rw [show (!decide (V.int ((os.length : Nat) : Int) = V.int m)) = true by simp [hm]]
      exact iteT (e HU rfl SU)

end
end Cl

set_option maxHeartbeats 0
namespace Cl
open PySem PySem.Spec PyProof.Rows L2
open GxR (TabB TabG)
open TL

section
variable {P : Program} {w : World} {K : PySem.W.Frag} {mg : Str → Option Value} {base : Heap}


def spLineIn (K : PySem.W.Frag) (CT Pf Pw : Addr) : Sp := fun vs H Q E => ∃ (row : Str), vs = [.str row] ∧ TabG H Pf ∧ TabG H Pw ∧ row.length ≤ 100000 ∧
  (∀ l v H', lineP (tl row) = some l → Same H H' → AtL K H' v l → Q v H') ∧ (∀ H', lineP (tl row) = none → Same H H' → E (.ref CT) none H')
def spGrainIn (CT Pf : Addr) : Sp := fun vs H Q E => ∃ (row : Str), vs = [.str row] ∧ TabG H Pf ∧ row.length ≤ 100000 ∧
  (∀ g H', grainP (tl row) = some g → Same H H' → Q (.int g) H') ∧ (∀ H', grainP (tl row) = none → Same H H' → E (.ref CT) none H')
def spRows (K : PySem.W.Frag) (CT : Addr) : Sp := fun vs H Q E => ∃ v U, vs = [v] ∧ Kd K H v U ∧ (∀ t, v = .str t → t.length ≤ 100000 ∧ ∀ p, H p = none → Q (.ref p) (upd H p (.lst ((Txt.split t (("\n" : String) : Str)).map V.str)))) ∧ (U ≠ "str" → E (.ref CT) none H)
theorem kd_str {K : PySem.W.Frag} {H : Hp} {v : V} {U : String} (h : Kd K H v U) (e : U = "str") : ∃ t, v = .str t := by
  cases h <;> first | exact ⟨_, rfl⟩ | exact absurd e (by decide)
theorem par_len (S : List Nat) : ∀ (l acc a b : List Nat), TL.par S acc l = some (a, b) → b.length ≤ l.length
  | [], acc, a, b, h => by cases h
  | c :: r, acc, a, b, h => by
    have h : (if pre S (c :: r) = true then some (acc, (c :: r).drop S.length) else TL.par S (acc ++ [c]) r) = some (a, b) := h
    split at h
    · cases h
      rw [List.length_drop]
      omega
    · have := par_len S r _ a b h
      rw [List.length_cons]
      omega
theorem part_g (row : Str) : ∃ wd bl rs, Txt.partition row ((" " : String) : Str) = (wd, bl, rs) ∧ rs.length ≤ row.length ∧
    grainP (tl row) = if tl wd = grW then (match numP (tl rs) with | some g => if 1 ≤ g then some g else none | none => none) else none := by
  have hp := partition_par row ((" " : String) : Str) (by decide)
  rw [show tl ((" " : String) : Str) = [32] from rfl] at hp
  cases h : TL.par [32] [] (tl row) with
  | none =>
    rw [h] at hp
    refine ⟨_, _, _, hp, Nat.zero_le _, ?_⟩
    unfold grainP
    rw [h]
    show none = if tl row = grW then none else none
    split <;> rfl
  | some ab =>
    obtain ⟨a, b⟩ := ab
    rw [h] at hp
    refine ⟨_, _, _, hp, ?_, ?_⟩
    · have := par_len _ _ _ _ _ h
      rw [len_tl, len_tl]
      exact this
    · unfold grainP
      rw [h] <;> rfl
theorem four5 {m : List Nat} {ns : List Int} (h : numsP m 4 = some ns) : ∃ x y u v, ns = [x, y, u, v] := by
  unfold numsP at h
  split at h
  · rename_i hl
    have := congrArg List.length (allSome_some h)
    rw [List.length_map, List.length_map] at this
    have h4 : ns.length = 4 := by omega
    match ns, h4 with
    | [x, y, u, v], _ => exact ⟨x, y, u, v, rfl⟩
  · cases h

end
end Cl

set_option maxHeartbeats 0
namespace Cl
open PySem PySem.Spec PyProof.Rows L2
open GxR (TabB TabG)
open TL

section
variable {P : Program} {w : World} {K : PySem.W.Frag} {mg : Str → Option Value} {base : Heap}

theorem okrows_of {f : Addr} {fd : FuncData} (F : Fun K "rows_of" "rows_of" srows_of f fd) (T : Bt mg) {CT : Addr} (hX : XC K mg "NoText" CT) :
    FnG P w K mg base (L2.CX P w) 1 f fd ["text"] (spRows K CT) := by
  refine okGX (k := 0) F scrows_of (fun vs H Q E h => ?_) (fun cdv A outer s H vs Q E hr h => ?_)
  · obtain ⟨v, U, rfl, _⟩ := h
    rfl
  · obtain ⟨v, U, rfl, hk, q, e⟩ := h
    refine ⟨_, (pss_cons (ps_if (pt_not (pt_val (pe_callB call_isi (by rfl) T.isinstance (by decide +kernel) (pa_cons (pv 0) (pa_cons (pe_bltn (v := .ty "str") (by rfl) T.str (by decide +kernel) rfl) pa_nil))))) (pss_one (ps_raise rfl (takes_of rfl rfl rfl rfl) (pmk_own PySem.F.excBase_ValueError hX.q hX.g hX.k (raises_own hX.b hX.t) rfl))) pss_nil)
      (pss_one (ps_ret (pe_split (pv 0) pe_str)))), ?_⟩
    refine ⟨_, rfl, _, _, _, _, _, rfl, .ty _, hk.ty, kit_ty hk.str?, _, rfl, ?_⟩
    by_cases eu : U = "str"
    · rw [decide_eq_true eu]
      obtain ⟨t, rfl⟩ := kd_str hk eu
      obtain ⟨hl, qq⟩ := q t rfl
      exact iteF ⟨_, rfl, ⟨t, rfl⟩, t, _, rfl, rfl, rfl, Nat.le_trans (Nat.add_le_add_right hl 2) (by decide), qq⟩
    · rw [decide_eq_false eu]
      exact iteT (e eu)

end
end Cl

set_option maxHeartbeats 0
namespace Cl
open PySem PySem.Spec PyProof.Rows L2
open GxR (TabB TabG)
open TL

section
variable {P : Program} {w : World} {K : PySem.W.Frag} {mg : Str → Option Value} {base : Heap}


def okN (i : Int) : Prop := i.natAbs < 10 ^ 30
def okLn (l : Ln) : Prop := okN l.1.1 ∧ okN l.1.2 ∧ okN l.2.1 ∧ okN l.2.2
def grL (g : Int) : List Nat := grW ++ 32 :: iL g
def rowL (l : Ln) : List Nat := joinL [32] [iL l.1.1, iL l.1.2, iL l.2.1, iL l.2.2]
def toS (l : List Nat) : Str := ⟨l.toArray⟩
theorem tl_toS (l : List Nat) : tl (toS l) = l := rfl
def txL (g : Int) (ls : List Ln) : List Nat := joinL [10] (grL g :: ls.map rowL)
def txS (g : Int) (ls : List Ln) : Str := toS (txL g ls)
theorem okN.log {i : Int} (h : okN i) : i.natAbs.log2 < 1920 := Nat.lt_of_lt_of_le (PySem.Flt.log2_lt_of (k := 100) (by decide) (Nat.lt_of_lt_of_le h (by decide))) (by decide)
theorem grL_len {g : Int} (h : okN g) : (grL g).length ≤ 37 := by
  have := iL_len h
  unfold grL
  rw [List.length_append, List.length_cons]
  show 5 + _ ≤ 37
  omega
theorem rowL_len {l : Ln} (h : okLn l) : (rowL l).length ≤ 127 := by
  obtain ⟨a, b, c, d⟩ := h
  have := iL_len a
  have := iL_len b
  have := iL_len c
  have := iL_len d
  show (iL l.1.1 ++ ([32] ++ (iL l.1.2 ++ ([32] ++ (iL l.2.1 ++ ([32] ++ iL l.2.2)))))).length ≤ 127
  simp only [List.length_append, List.length_singleton]
  omega
theorem joinL_len (S : List Nat) : ∀ ps : List (List Nat), (joinL S ps).length ≤ (ps.map (·.length)).sum + ps.length * S.length
  | [] => Nat.zero_le _
  | [p] => by
    show p.length ≤ p.length + 0 + 1 * S.length
    omega
  | p :: q :: r => by
    have := joinL_len S (q :: r)
    show (p ++ (S ++ joinL S (q :: r))).length ≤ p.length + ((q :: r).map (·.length)).sum + ((q :: r).length + 1) * S.length
    rw [List.length_append, List.length_append, Nat.add_mul]
    omega
theorem sum_le {m : Nat} : ∀ {l : List Nat}, (∀ x ∈ l, x ≤ m) → l.sum ≤ l.length * m
  | [], _ => Nat.zero_le _
  | x :: r, h => by
    have a := h x List.mem_cons_self
    have b := sum_le fun y hy => h y (List.mem_cons_of_mem _ hy)
    rw [List.sum_cons, List.length_cons, Nat.add_mul]
    omega
theorem acc_len {a b : Str} {n m : Nat} (h1 : a.length ≤ n) (h2 : b.length ≤ m) : (a ++ b).length ≤ n + m := by
  rw [len_tl, tl_append, List.length_append, ← len_tl, ← len_tl]
  omega
theorem le_sz {a : Str} {n : Nat} (h : a.length ≤ n) (h2 : n ≤ 20000) : a.length ≤ sizeLine := Nat.le_trans h (Nat.le_trans h2 (by decide))
theorem str_len {i : Int} (h : okN i) : (Str.ofString (toString i)).length ≤ 31 := by rw [len_tl, tl_int]; exact iL_len h
theorem gr_str (g : Int) : Str.empty ++ (("grain " : String) : Str) ++ Str.ofString (toString g) = toS (grL g) := ext_tl (by
  rw [tl_append, tl_append, tl_int]
  rfl)
theorem row_str (l : Ln) : Str.empty ++ Str.ofString (toString l.1.1) ++ ((" " : String) : Str) ++ Str.ofString (toString l.1.2) ++ ((" " : String) : Str) ++ Str.ofString (toString l.2.1) ++ ((" " : String) : Str) ++ Str.ofString (toString l.2.2) = toS (rowL l) := ext_tl (by
  simp only [tl_append, tl_int]
  rw [tl_toS]
  show (([] ++ iL l.1.1 ++ [32] ++ iL l.1.2 ++ [32] ++ iL l.2.1 ++ [32] ++ iL l.2.2) : List Nat) = iL l.1.1 ++ ([32] ++ (iL l.1.2 ++ ([32] ++ (iL l.2.1 ++ ([32] ++ iL l.2.2)))))
  simp)
theorem tx_join (g : Int) (ls : List Ln) : Txt.join (("\n" : String) : Str) (toS (grL g) :: ls.map fun l => toS (rowL l)) = txS g ls := ext_tl (by
  rw [join_eq, tl_join]
  show joinL [10] ((toS (grL g) :: ls.map fun l => toS (rowL l)).map tl) = txL g ls
  rw [List.map_cons, List.map_map]
  rfl)
def spShow (K : PySem.W.Frag) : Sp := fun vs H Q _ => ∃ g v ls, vs = [.int g, v] ∧ okN g ∧ AtT K H v ls ∧ (∀ l ∈ ls, okLn l) ∧ ls.length ≤ 400 ∧ ∀ H', Same H H' → Q (.str (txS g ls)) H'

end
end Cl

set_option maxHeartbeats 0
namespace Cl
open PySem PySem.Spec PyProof.Rows L2
open GxR (TabB TabG)
open TL

section
variable {P : Program} {w : World} {K : PySem.W.Frag} {mg : Str → Option Value} {base : Heap}


def spWhole5 : Sp := fun vs H Q _ => ∃ (d l : Addr) (way : Int), vs = [.ref d, .int way] ∧ 0 ≤ way ∧ way ≤ 4 ∧ Deck H d l ∧ ∀ i H', Step d l H H' → okN i → Q (.int i) H'
def spPair5 (K : PySem.W.Frag) : Sp := fun vs H Q _ => ∃ (d l : Addr) (way : Int), vs = [.ref d, .int way] ∧ 0 ≤ way ∧ way ≤ 4 ∧ Deck H d l ∧ ∀ w p H', Step d l H H' → At2 K H' w p → okN p.1 → okN p.2 → Q w H'
def spLines5 (K : PySem.W.Frag) : Sp := fun vs H Q _ => ∃ (d l : Addr) (n : Nat) (way : Int), vs = [.ref d, .int n, .int way] ∧ n ≤ 400 ∧ 0 ≤ way ∧ way ≤ 4 ∧ Deck H d l ∧ ∀ w ls H', Step d l H H' → AtT K H' w ls → (∀ r ∈ ls, okLn r ∧ r.1 ≠ r.2) → ls.length = n → Q w H'

theorem ok_law_whole {f : Addr} {fd : FuncData} (F : Fun K "_law_whole" "_law_whole" s_law_whole f fd) (T : Bt mg) (D_law_draw : Def P w K mg base 1 "_law_draw" ["_law_deck_here", "_law_most"] spDraw) :
    FnG P w K mg base CX0 2 f fd ["_law_deck_here", "_law_way"] spWhole5 := by
  refine okG (k := 1) F sc_law_whole (fun vs H Q E h => ?_) (fun cdv A outer s H vs Q E hr h => ?_)
  · obtain ⟨d, l, way, rfl, _⟩ := h
    rfl
  · obtain ⟨d, l, way, rfl, w0, w4, D, q⟩ := h
    refine ⟨_, (pss_cons (ps_set (i := 2) sc_law_whole.nd rfl (.inl rfl) (callD D_law_draw (hr.mono (by decide)) (pa_cons (pv 0) (pa_cons pe_int pa_nil))))
      (pss_cons (ps_set (i := 3) sc_law_whole.nd rfl (.inl rfl) (callD D_law_draw (hr.mono (by decide)) (pa_cons (pv 0) (pa_cons (pe_ix ix_list (lstN (pa_cons pe_int (pa_cons pe_int (pa_cons pe_int (pa_cons pe_int (pa_cons pe_int pa_nil)))))) (pv 1) (fun _ _ => rfl)) pa_nil))))
      (pss_cons (ps_for PassesOwn.never rfl (pi_range1 (by rfl) T.range (pa_cons (pe_op op_mul pe_int (pe_callTy call_int1 (by rfl) T.int (by decide +kernel) (pa_cons (pe_cmpR op_eq (pv 1) pe_int (nomark _)) pa_nil))) pa_nil)) (pg_name (i := 4) sc_law_whole.nd rfl (.inl rfl)) (pss_one (ps_set (i := 3) sc_law_whole.nd rfl (.inl rfl) (pe_op op_add (pe_op op_mul (pv 3) (pe_op op_pow pe_int pe_int)) (callD D_law_draw (hr.mono (by decide)) (pa_cons (pv 0) (pa_cons (pe_op op_pow pe_int pe_int) pa_nil)))))))
      (cutS (ps_if (pt_cmpR op_eq (pv 1) pe_int (nomark _)) (pss_one (ps_set (i := 3) sc_law_whole.nd rfl (.inl rfl) (pe_op op_sub (pe_op op_pow pe_int pe_int) pe_int))) pss_nil)
      (pss_one (ps_ret (pe_ix ix_list (lstN (pa_cons (pv 3) (pa_cons (pe_op op_sub pe_int (pv 3)) pa_nil))) (pv 2) (fun _ _ => rfl)))))))), ?_⟩
    obtain ⟨m, hat, m0, m1, m3⟩ : ∃ m : Int, atI [V.int 4, .int 12, .int 1000001, .int 1000000, .int 1] way = some (.int m) ∧ 0 < m ∧ m ≤ 1000001 ∧ (way = 3 → m = 1000000) := by
      obtain rfl | rfl | rfl | rfl | rfl : way = 0 ∨ way = 1 ∨ way = 2 ∨ way = 3 ∨ way = 4 := by omega
      · exact ⟨4, rfl, by decide, by decide, by decide⟩
      · exact ⟨12, rfl, by decide, by decide, by decide⟩
      · exact ⟨1000001, rfl, by decide, by decide, by decide⟩
      · exact ⟨1000000, rfl, by decide, by decide, by decide⟩
      · exact ⟨1, rfl, by decide, by decide, by decide⟩
    refine ⟨_, rfl, d, l, 2, rfl, by decide, by decide, D, fun t H1 t0 t2 S1 => ?_⟩
    refine ⟨_, rfl, (by show 5 ≤ sizeLine; decide), fun pL H2 n2 s2 e2 => ⟨_, rfl, pL, _, way, .int m, rfl, rfl, .inl (.inl e2), hat, d, l, m, rfl, m0, by omega, (Step.of S1.deck s2).deck, fun x H3 x0 x1 S3 => ?_⟩⟩
    have S13 := (S1.trans (Step.of S1.deck s2)).trans S3
    refine ⟨_, rfl, rfl, .inr ⟨_, rfl, ?_⟩⟩
    obtain ⟨k, hk4, hk, hk2⟩ : ∃ k : Nat, k ≤ 4 ∧ (4 : Int) * (if decide (V.int way = V.int 3) = true then 1 else 0) = (k : Int) ∧ (way = 3 ∨ k = 0) := by
      by_cases e : way = 3
      · exact ⟨4, by decide, by rw [if_pos (decide_eq_true (by rw [e]))]; rfl, .inl e⟩
      · exact ⟨0, by decide, by rw [if_neg fun z => e (V.int.inj (of_decide_eq_true z))]; rfl, .inr rfl⟩
    refine ⟨_, _, rfl, rfl, mulc (by decide), ?_⟩
    refine ⟨(k : Int), congrArg (fun z => [V.int z]) hk, by omega, by omega, ?_⟩
    rw [Int.toNat_natCast]
    refine for_range (n := k) (fun i σ' H' => ∃ y y4, σ' = [some (.ref d), some (.int way), some (.int t), some (.int y), y4] ∧ Step d l H H' ∧ 0 ≤ y ∧ y ≤ 1000000 * 10 ^ (6 * i) ∧ (way = 3 → y < 1000000 * 10 ^ (6 * i))) ?_ ?_ ?_
    · refine ⟨x, _, rfl, S13, x0, by omega, fun z => ?_⟩
      have := m3 z
      omega
    · rintro i σ' H' hi ⟨y, y4, rfl, S, y0, y1, y3⟩
      have w3 : way = 3 := hk2.resolve_right (by omega)
      have y3 := y3 w3
      refine ⟨_, rfl, _, _, rfl, rfl, ⟨by decide, by decide, by decide⟩, _, _, rfl, rfl, .inr (by decide), _, rfl, _, _, rfl, rfl, ⟨by decide, by decide, by decide⟩, d, l, _, rfl, by decide, by decide, S.deck, fun e H5 d0 d1 S5 => ⟨_, _, rfl, rfl, ?_⟩⟩
      have d1 : e < 1000000 := d1
      have pw : (10 : Int) ^ (6 * (i + 1)) = 10 ^ (6 * i) * 1000000 := by rw [show 6 * (i + 1) = 6 * i + 6 by omega, Int.pow_add]; rfl
      have n1 : y * 1000000 + e < 1000000 * 10 ^ (6 * (i + 1)) := by rw [pw]; omega
      exact ⟨y * 1000000 + e, _, rfl, S.trans S5, by omega, by omega, fun _ => n1⟩
    · rintro σ' H' ⟨y, y4, rfl, S, y0, y1, y3⟩
      have y2 : okN y := by
        show y.natAbs < 10 ^ 30
        have e : (1000000 : Int) * 10 ^ (6 * 4) = 10 ^ 30 := by decide
        rcases hk2 with z | z
        · have := y3 z
          have k4 : k = 4 := by
            rw [z] at hk
            have : (4 : Int) * (if decide (V.int 3 = V.int 3) = true then 1 else 0) = 4 := by decide
            omega
          rw [k4] at this
          omega
        · rw [z] at y1
          have : y ≤ 1000000 := y1
          omega
      refine ⟨fun σ' H' => ∃ y y4, σ' = [some (.ref d), some (.int way), some (.int t), some (.int y), y4] ∧ Step d l H H' ∧ okN y, ?_, ?_⟩
      · refine ⟨_, rfl, rfl, _, rfl, ite2 (fun _ => ?_) (fun _ => ?_)⟩
        · refine ⟨_, _, rfl, rfl, ⟨by decide, by decide, by decide⟩, _, _, rfl, rfl, ?_⟩
          exact ⟨_, _, rfl, S, (show ((10 : Int) ^ (30 : Int).toNat - 1).natAbs < 10 ^ 30 by decide)⟩
        · exact ⟨y, y4, rfl, S, y2⟩
      rintro σ' H' ⟨y, y4, rfl, S, yk⟩
      refine ⟨_, rfl, _, rfl, _, _, rfl, rfl, (by show 2 ≤ sizeLine; decide), fun pM H6 n6 s6 e6 => ?_⟩
      have S6 := S.trans (Step.of S.deck s6)
      obtain rfl | rfl : t = 0 ∨ t = 1 := by omega
      · exact ⟨_, rfl, pM, _, _, _, rfl, rfl, .inl (.inl e6), rfl, q y H6 S6 yk⟩
      · exact ⟨_, rfl, pM, _, _, _, rfl, rfl, .inl (.inl e6), rfl, q (0 - y) H6 S6 (by show (0 - y).natAbs < 10 ^ 30; have : y.natAbs < 10 ^ 30 := yk; omega)⟩

end
end Cl

set_option maxHeartbeats 0
namespace Cl
open PySem PySem.Spec PyProof.Rows L2
open GxR (TabB TabG)
open TL

section
variable {P : Program} {w : World} {K : PySem.W.Frag} {mg : Str → Option Value} {base : Heap}

theorem ok_law_pair {f : Addr} {fd : FuncData} (F : Fun K "_law_pair" "_law_pair" s_law_pair f fd) (T : Bt mg) (D_law_whole : Def P w K mg base 2 "_law_whole" ["_law_deck_here", "_law_way"] spWhole5) :
    FnG P w K mg base CX0 3 f fd ["_law_deck_here", "_law_way"] (spPair5 K) := by
  refine okG (k := 2) F sc_law_pair (fun vs H Q E h => ?_) (fun cdv A outer s H vs Q E hr h => ?_)
  · obtain ⟨d, l, way, rfl, _⟩ := h
    rfl
  · obtain ⟨d, l, way, rfl, w0, w4, D, q⟩ := h
    refine ⟨_, (pss_one (ps_ret (tupN (pa_cons (callD D_law_whole (hr.mono (by decide)) (pa_cons (pv 0) (pa_cons (pv 1) pa_nil))) (pa_cons (callD D_law_whole (hr.mono (by decide)) (pa_cons (pv 0) (pa_cons (pv 1) pa_nil))) pa_nil))))), ?_⟩
    refine ⟨_, rfl, _, rfl, d, l, way, rfl, w0, w4, D, fun x H1 S1 kx => ⟨_, rfl, _, rfl, d, l, way, rfl, w0, w4, S1.deck, fun y H2 S2 ky => ⟨(by show 2 ≤ sizeLine; decide), fun p H3 n3 s3 e3 => ?_⟩⟩⟩
    exact q _ (x, y) H3 ((S1.trans S2).trans (Step.of S2.deck s3)) ⟨p, rfl, .inl (.inl e3)⟩ kx ky

end
end Cl

/-! set(tuple), and the length of a set, as rules of calls. -/
namespace SG
open PySem PySem.Spec PyProof.Rows L2 Cl
section
variable {P : Program} {w : World} {K : Type} [DecidableEq K] {knd : SKind P w K} {A : Around} {E : Value → Shared → Prop} {s : Shared} {a : Addr} {L : List (Addr × K)}
  {es : Array (Int × Value)} {ep : Nat} {t : SetTable} {Q : Value → Shared → Prop}
theorem call_lenG (R : SetG knd s.heap a L es ep t) (q : Q (.int L.length (s.toks + 1)) { s with toks := s.toks + 1 + 1 }) :
    wpAny (model P w) A (call (.builtin "len") [.ref a]) Q E s := by
  obtain ⟨o, ho, hx, hd⟩ := R.ob
  have ty : s.TypeIs (.ref a) "set" := ⟨o, ho, hx.1⟩
  have hf := R.few
  refine call_len_slot (n := (L.length : Int)) ty PySem.F.slot_set_len (fun Q' q' => ?_) (by omega) (by omega) q
  refine wpAny_call (codeAny_call_builtin PySem.F.slot_set_len.plain PySem.entry_set_len (PySem.F.slot_set_len.check _ _ _ _ _ _ _ _ ty (PySem.F.args_set_len_1 _) ?_))
  unfold Builtin.«frozenset.__len__»
  refine wpAny_bind (m := Builtin.Frozenset.slot0 _ _) ?_
  unfold Builtin.Frozenset.slot0
  refine wpAny_bind (m := slotArgs _ _ _) (wpAny_pure (wpAny_pure ?_))
  refine wpAny_bind (m := Builtin.Frozenset.sizeOf _) ?_
  unfold Builtin.Frozenset.sizeOf setEntries
  refine wpAny_bind (wpAny_bind (wpAny_state R (wpAny_pure (wpAny_pure ?_))))
  rw [R.size]
  exact wpAny_bind (m := mkInt _) (wpAny_mkInt (wpAny_pure q'))
end
section
variable {X : Cx} {K : Type} [DecidableEq K] (knd : SKind X.prog X.w K) (el : Hp → Addr → K → Prop)
def rSetTG : List V → Hp → VK → Prop := fun xs H Q => ∃ (l : Addr) (ks : List (Addr × K)), xs = [.ref l] ∧ SqT X.K H l (ks.map fun p => V.ref p.1) ∧
  (∀ p ∈ ks, el H p.1 p.2) ∧ ks.length < 2048 ∧ ∀ a H' L, Cl.Same H H' → H a = none → H' a = some (SetGO knd a L) → (L.map (·.2)).Nodup → (∀ p ∈ L, p ∈ ks) → (∀ p ∈ ks, p.2 ∈ L.map (·.2)) → Q (.ref a) H'
def rLenG : List V → Hp → VK → Prop := fun xs H Q => ∃ (a : Addr) (L : List (Addr × K)), xs = [.ref a] ∧ H a = some (SetGO knd a L) ∧ (∀ p ∈ L, el H p.1 p.2) ∧ Q (.int L.length) H
variable {knd el}
theorem cr_setTG (hc : X.calm = true) (hu : X.A.units + 64 < cLine) (hr : knd.room ≤ 50)
    (hel : ∀ {pins σ H s b k}, Inv X pins σ H s → el H b k → knd.is s.heap k b) : CallR X (.type "set") (rSetTG knd el) := by
  intro pins s σ H xs us Q I r ⟨l, ks, e, hl, hk, hf, q⟩
  subst e
  rw [Vals.ref1 r]
  obtain ⟨its, rv, hil, hz⟩ := I.tuple hl
  have ei : its = ks.map fun p => Value.ref p.1 := by
    clear hf hk q hil hz hl
    induction ks generalizing its with
    | nil => cases rv; rfl
    | cons p ks ih =>
      rw [List.map_cons] at rv
      cases rv with
      | cons r0 rr =>
        rw [List.map_cons, ih _ rr]
        congr 1
  refine call_setT (knd := knd) (items := its.toArray) ks (I.ok.hd hc) hil (by simpa using ei) (fun p hp => hel I (hk p hp)) hf (by omega) fun h' tk L es ep t RS GT kp ht => ?_
  have hn : H s.heap.objs.size = none := I.hok.fresh (Nat.le_refl _)
  have J : Inv X pins σ (upd H s.heap.objs.size (SetGO knd s.heap.objs.size L)) { s with heap := h', gens := s.gens, drawn := s.drawn, toks := tk } :=
    I.call (ch := []) (Un.laid kp (Nat.le_refl _) hn) (I.hok.laid kp (Nat.le_refl _) (setGO_new RS.alone)) I.bare (fun _ z => nomatch z)
  refine ⟨.ref s.heap.objs.size, _, J, rfl, q _ _ L (Cl.same_new hn) hn upd_same RS.nd (fun p hp => ?_) fun p hp => ?_⟩
  · exact List.mem_of_mem_take (GT.sub p hp)
  · exact GT.all p (by rw [List.take_length]; exact hp)
theorem cr_lenG (hel : ∀ {pins σ H s b k}, Inv X pins σ H s → el H b k → knd.is s.heap k b) : CallR X (.builtin "len") (rLenG knd el) := by
  intro pins s σ H xs us Q I r ⟨a, L, e, ha, hk, q⟩
  subst e
  rw [Vals.ref1 r]
  obtain ⟨es, ep, t, R⟩ := S0G.full (I.hok a _ ha).1 fun p hp => hel I (hk p hp)
  exact call_lenG R ⟨.int L.length, H, I.tok _, ⟨_, rfl⟩, q⟩
end
/-! ### flat tuples -/
section
variable {X : Cx}
def elF (K : PySem.W.Frag) (H : Hp) (b : Addr) (k : List Int) : Prop := SqT K H b (k.map V.int)
theorem elF_is {pins : List (Addr × Obj)} {σ : L2.St} {H : Hp} {s : Shared} {b : Addr} {k : List Int} (I : Inv X pins σ H s) (h : elF X.K H b k) : (flatK X.prog X.w).is s.heap k b := I.isT h
def encF (k : List Int) : PyData := .tuple (k.map .int)
theorem reads_ints {h : Heap} : ∀ {k : List Int} {us : List Value}, IntsAre us k → ReadsAll h us (k.map .int) []
  | _, _, .nil => .nil
  | _, _, .cons n t r => .cons (.int _ _) (reads_ints r)
theorem readF {P : Program} {w : World} {h : Heap} {k : List Int} {b : Addr} (hk : (flatK P w).is h k b) : Reads h (.ref b) (encF k) [] := by
  obtain ⟨o, its, n, h1, h2, h3, h4⟩ := hk
  exact .tuple h1 h2 h3 (reads_ints (ints_of_items h4))
theorem depth_ints : ∀ k : List Int, PyData.depthAll (k.map .int) = 0
  | [] => rfl
  | n :: k => by
    show max 0 (PyData.depthAll (k.map .int)) = 0
    rw [depth_ints k]
    rfl
theorem depthF (k : List Int) : (encF k).depth = 1 := by
  show PyData.depthAll (k.map .int) + 1 = 1
  rw [depth_ints]
end
end SG

set_option maxHeartbeats 0
namespace Cl
open PySem PySem.Spec PyProof.Rows L2
open GxR (TabB TabG)
open TL

section
variable {P : Program} {w : World} {K : PySem.W.Frag} {mg : Str → Option Value} {base : Heap}

theorem nodup_len20 {α : Type} [DecidableEq α] : ∀ (ms L : List α), ms.Nodup → (∀ x ∈ ms, x ∈ L) → ms.length ≤ L.length
  | [], _, _, _ => Nat.zero_le _
  | a :: ms, L, nd, h => by
    obtain ⟨n1, n2⟩ := List.nodup_cons.mp nd
    have ha := h a List.mem_cons_self
    have := nodup_len20 ms (L.erase a) n2 fun x hx => (List.mem_erase_of_ne (fun z => n1 (by rw [← z]; exact hx))).mpr (h x (List.mem_cons_of_mem _ hx))
    rw [List.length_erase_of_mem ha] at this
    have p : 0 < L.length := List.length_pos_of_mem ha
    rw [List.length_cons]
    omega
theorem nodup_of_len {α : Type} [DecidableEq α] : ∀ (L M : List α), L.Nodup → (∀ x ∈ L, x ∈ M) → M.length ≤ L.length → M.Nodup
  | [], M, _, _, hl => by
    cases M with
    | nil => exact .nil
    | cons _ _ => exact absurd hl (Nat.not_succ_le_zero _)
  | a :: L, M, nd, h, hl => by
    obtain ⟨n1, n2⟩ := List.nodup_cons.mp nd
    have ha := h a List.mem_cons_self
    have p : 0 < M.length := List.length_pos_of_mem ha
    have sub : ∀ x ∈ L, x ∈ M.erase a := fun x hx => (List.mem_erase_of_ne (fun z => n1 (by rw [← z]; exact hx))).mpr (h x (List.mem_cons_of_mem _ hx))
    have le : (M.erase a).length ≤ L.length := by
      rw [List.length_erase_of_mem ha]
      rw [List.length_cons] at hl
      omega
    have ih := nodup_of_len L (M.erase a) n2 sub le
    have na : a ∉ M.erase a := fun z => by
      have := nodup_len20 (a :: L) (M.erase a) nd fun x hx => by
        rcases List.mem_cons.mp hx with rfl | hx
        · exact z
        · exact sub x hx
      rw [List.length_cons] at this
      omega
    exact (List.perm_cons_erase ha).nodup_iff.mpr (List.nodup_cons.mpr ⟨na, ih⟩)
def pt2 (ns : List Int) : Pt := (ns.getD 0 0, ns.getD 1 0)
def ptP (w : List Nat) : Option Pt := (numsP w 2).map pt2
def pathP (row : List Nat) : Option (List Pt) := match allSome ((spl [44, 32] 0 [] row).map ptP) with
  | some ps => if ps.Nodup then some ps else none
  | none => none
theorem two5 {m : List Nat} {ns : List Int} (h : numsP m 2 = some ns) : ∃ x y, ns = [x, y] := by
  unfold numsP at h
  split at h
  · rename_i hl
    have := congrArg List.length (allSome_some h)
    rw [List.length_map, List.length_map] at this
    have h2 : ns.length = 2 := by omega
    match ns, h2 with
    | [x, y], _ => exact ⟨x, y, rfl⟩
  · cases h
theorem kb44 : (((", " : String) : Str).cps.all (· < 256)) = true := by decide +kernel
def spPathIn (K : PySem.W.Frag) (CT Pf : Addr) : Sp := fun vs H Q E => ∃ (row : Str), vs = [.str row] ∧ TabG H Pf ∧ row.length ≤ 100000 ∧ (spl [44, 32] 0 [] (tl row)).length < 2048 ∧
  (∀ ps v H', pathP (tl row) = some ps → Same H H' → AtP K H' v ps → Q v H') ∧ (∀ H', pathP (tl row) = none → Same H H' → E (.ref CT) none H')

theorem okpath_in {f Pt : Addr} {fd : FuncData} (F : Fun K "path_in" "path_in" spath_in f fd) (T : Bt mg) {CT : Addr} (hX : XC K mg "NoText" CT) (Dnumbers_in : DefX P w K mg base 5 "numbers_in" ["row", "many"] (spNums K CT Pt)) :
    FnG P w K mg base (L2.CX P w) 6 f fd ["row"] (spPathIn K CT Pt) := by
  refine okGX (k := 5) F scpath_in (fun vs H Q E h => ?_) (fun cdv A outer s H vs Q E hr h => ?_)
  · obtain ⟨row, rfl, _⟩ := h
    rfl
  · obtain ⟨row, rfl, hT, hl, hp, q, e⟩ := h
    refine ⟨_, (pss_cons (ps_set (i := 1) scpath_in.nd rfl (.inl rfl) (pe_callTy call_tuple_ofN (by rfl) T.tuple (by decide +kernel) (pa_cons (pe_lcX (W := fun cls d _ H => E cls d H) (own := [("word", 2)]) (g := gName 2) (tt := tYes) (te := (fun _ => tCallE (spNums K CT Pt) (fun _ cls d H => E cls d H) (tCons (tVar 2) (tCons (tC (.int 2)) tNil)))) rfl rfl (takes_of rfl rfl rfl rfl) (by rfl) scpath_in.nd (pi_list (pe_split (pv 0) pe_str)) (blkOk_by (own := [("word", 2)]) (N := ["row", "path", "word"]) (sc := defScope spath_in) (by decide +kernel)) (fun _ _ _ _ _ => (pg_name (i := 2) scpath_in.nd rfl (.inl rfl))) (fun _ _ _ _ _ => pts_nil) (fun _ _ _ _ _ _ _ hx => (callDXp (EE := fun τ => _) Dnumbers_in hx (hr.mono (by decide)) (pa_cons (pv 2) (pa_cons pe_int pa_nil))))) pa_nil)))
      (pss_cons (ps_if (pt_cmpR op_lt (pe_callB (SG.cr_lenG (knd := SG.flatK _ _) (el := SG.elF K) (fun I h => SG.elF_is I h)) (by rfl) T.len (by decide +kernel) (pa_cons (pe_callTy (SG.cr_setTG (knd := SG.flatK _ _) (el := SG.elF K) rfl hr.room.units (by show 0 ≤ 50; decide) (fun I h => SG.elF_is I h)) (by rfl) T.set (by decide +kernel) (pa_cons (pv 1) pa_nil)) pa_nil)) (pe_callB call_len_seq (by rfl) T.len (by decide +kernel) (pa_cons (pv 1) pa_nil)) (nomark _)) (pss_one (ps_raise rfl (takes_of rfl rfl rfl rfl) (pmk_own PySem.F.excBase_ValueError hX.q hX.g hX.k (raises_own hX.b hX.t) rfl))) pss_nil)
      (pss_one (ps_ret (pv 1))))), ?_⟩
    have sz : row.length + 2 ≤ sizeLine := Nat.le_trans (Nat.add_le_add_right hl 2) (by decide)
    obtain ⟨sz1, sz2⟩ := split_sz (a := row) (b := ((", " : String) : Str)) (by decide) kb44
    have e44 := split_tl row ((", " : String) : Str) (by decide) kb44
    obtain ⟨ys, hys⟩ : ∃ ys, ys = Txt.split row ((", " : String) : Str) := ⟨_, rfl⟩
    rw [← hys] at sz1 sz2 e44
    have e44 : ys.map tl = spl [44, 32] 0 [] (tl row) := e44
    have ly : ys.length < 2048 := by
      rw [← e44, List.length_map] at hp
      exact hp
    have hx : pathP (tl row) = match allSome ((ys.map tl).map ptP) with
      | some ps => if ps.Nodup then some ps else none
      | none => none := by
      unfold pathP
      rw [← e44]
    refine ⟨_, rfl, ⟨row, rfl⟩, row, _, rfl, rfl, rfl, sz, ?_⟩
    rw [← hys]
    intro p1 n1
    have s1 : Same H (upd H p1 (.lst (ys.map V.str))) := same_new n1
    have e1 : upd H p1 (.lst (ys.map V.str)) p1 = some (.lst (ys.map V.str)) := upd_same
    generalize upd H p1 (.lst (ys.map V.str)) = H1 at s1 e1 ⊢
    refine ⟨p1, rfl, ⟨_, .inl (.inl e1)⟩, fun pD nD => ?_⟩
    refine lcL (K := K) (a := p1) (xs := ys.map V.str) (fun i H' => Same H1 H' ∧ ∃ ks : List (Addr × List Int), H' pD = some (.lst (ks.map fun p => V.ref p.1)) ∧ (∀ p ∈ ks, SqT K H' p.1 (p.2.map V.int)) ∧ ((ys.take i).map tl).map (fun w => numsP w 2) = ks.map fun p => some p.2) nD (fun H' e1 e2 => ⟨e1, [], e2, (fun p hp => (List.not_mem_nil hp).elim), rfl⟩) (fun i H' _ z => .inl (.inl (show H' p1 = some (.lst (ys.map V.str)) from z.1 _ _ e1))) (fun i z H' hz w => ?_) (fun H6 z => ?_)
    · obtain ⟨t1, ks, t2, t3, t4⟩ := w
      rw [List.getElem?_map] at hz
      obtain ⟨y, hy, rfl⟩ := Option.map_eq_some_iff.mp hz
      have my := List.mem_of_getElem? hy
      have ll := sz2 y my
      have S := s1.trans t1
      refine ⟨rfl, _, rfl, y, 2, rfl, S.tab hT, by omega, fun ns p7 H7 hP s7 h7 => ?_, fun H7 hP s7 => ?_⟩
      · have t2' := s7 _ _ t2
        refine ⟨_, t2', ?_, fun b' o z => ?_, ks ++ [(p7, ns)], by rw [List.map_append]; exact upd_same, ?_, ?_⟩
        · have l2 := congrArg List.length t4
          rw [List.length_map, List.length_map, List.length_map, List.length_take] at l2
          rw [List.length_map]
          exact Nat.lt_of_lt_of_le (show ks.length < 3000 by omega) (by decide)
        · rw [upd_ne (ne_of_none z nD)]
          exact (t1.trans s7) _ _ z
        · intro p hp
          rcases List.mem_append.mp hp with hp | hp
          · exact updT t2' (seT s7 (t3 p hp))
          · rw [List.mem_singleton.mp hp]
            exact updT t2' h7
        · rw [List.take_add_one, hy, List.map_append, List.map_append, t4, List.map_append]
          show _ ++ [numsP (tl y) 2] = _
          rw [hP]
          rfl
      · refine e H7 ?_ (S.trans s7)
        rw [hx]
        have m : none ∈ (ys.map tl).map ptP := by
          rw [List.map_map]
          exact List.mem_map.mpr ⟨y, my, by show (numsP (tl y) 2).map pt2 = none; rw [hP]; rfl⟩
        rw [allSome_mem m]
    obtain ⟨t1, ks, t2, t3, t4⟩ := z
    rw [List.length_map, List.take_length] at t4
    have lk : ks.length < 2048 := by
      have l2 := congrArg List.length t4
      rw [List.length_map, List.length_map, List.length_map] at l2
      omega
    have hps : (ys.map tl).map ptP = (ks.map fun p => pt2 p.2).map some := by
      have : (ys.map tl).map ptP = ((ys.map tl).map fun w => numsP w 2).map (Option.map pt2) := by
        simp only [List.map_map]
        rfl
      rw [this, t4, List.map_map, List.map_map]
      rfl
    rw [hps, allSome_map] at hx
    have hx : pathP (tl row) = if (ks.map fun p => pt2 p.2).Nodup then some (ks.map fun p => pt2 p.2) else none := hx
    have k2 : ∀ p ∈ ks, ∃ x y, p.2 = [x, y] := fun p hp => by
      have : some p.2 ∈ (ys.map tl).map fun w => numsP w 2 := by
        rw [t4]
        exact List.mem_map.mpr ⟨p, hp, rfl⟩
      obtain ⟨w, _, hw⟩ := List.mem_map.mp this
      exact two5 hw
    refine ⟨pD, _, rfl, .inl (.inl t2), fun pU HU nU sU eU => ?_⟩
    have SU := s1.trans (t1.trans sU)
    have eU' : SqT K HU pU (ks.map fun p => V.ref p.1) := .inl (.inl eU)
    refine ⟨_, rfl, pU, ks, rfl, eU', fun p hp => seT sU (t3 p hp), lk, fun a HS L sS nS eS nd sub all => ?_⟩
    refine ⟨a, L, rfl, eS, fun p hp => seT sS (seT sU (t3 p (sub p hp))), ?_⟩
    refine ⟨_, rfl, pU, _, rfl, .inr (seT sS eU'), _, _, rfl, rfl, _, rfl, ?_⟩
    have inj : ∀ p ∈ ks, ∀ q ∈ ks, pt2 p.2 = pt2 q.2 → p.2 = q.2 := fun p hp q hq h => by
      obtain ⟨x, y, ep⟩ := k2 p hp
      obtain ⟨u, v, eq⟩ := k2 q hq
      rw [ep, eq] at h ⊢
      have h1 : x = u := congrArg Prod.fst h
      have h2 : y = v := congrArg Prod.snd h
      rw [h1, h2]
    have hnd : (ks.map fun p => pt2 p.2).Nodup ↔ (ks.map (·.2)).Nodup := by
      constructor
      · intro h
        have : (ks.map fun p => pt2 p.2) = (ks.map (·.2)).map pt2 := by rw [List.map_map]; rfl
        rw [this] at h
        exact List.Pairwise.of_map pt2 (fun a b h z => h (by rw [z])) h
      · intro h
        have h := List.pairwise_map.mp h
        exact List.pairwise_map.mpr (h.imp_of_mem fun ha hb h z => h (inj _ ha _ hb z))
    have l1 : (L.map (·.2)).length = L.length := List.length_map _
    have l2 : (ks.map (·.2)).length = ks.length := List.length_map _
    have l3 : (ks.map fun p => V.ref p.1).length = ks.length := List.length_map _
    have SS := SU.trans sS
    by_cases hn : (ks.map (·.2)).Nodup
    · have le := nodup_len20 (ks.map (·.2)) (L.map (·.2)) hn fun x hx => by
        obtain ⟨p, hp, rfl⟩ := List.mem_map.mp hx
        exact all p hp
      rw [decide_eq_false (by rw [l3]; omega)]
      rw [if_pos (hnd.mpr hn)] at hx
      refine iteF ⟨_, rfl, q _ _ HS hx SS ⟨pU, _, rfl, seT sS eU', ?_⟩⟩
      have al : ∀ (zs : List (Addr × List Int)), (∀ p ∈ zs, p ∈ ks) → AllAt (At2 K HS) (zs.map fun p => V.ref p.1) (zs.map fun p => pt2 p.2) := fun zs => by
        induction zs with
        | nil => exact fun _ => .nil
        | cons z zs ih =>
          intro h
          obtain ⟨x, y, ez⟩ := k2 z (h z List.mem_cons_self)
          refine .cons ⟨z.1, rfl, ?_⟩ (ih fun p hp => h p (List.mem_cons_of_mem _ hp))
          have := seT sS (seT sU (t3 z (h z List.mem_cons_self)))
          show SqT K HS z.1 [V.int (pt2 z.2).1, V.int (pt2 z.2).2]
          rw [ez] at this ⊢
          exact this
      exact al ks fun _ hp => hp
    · have lt : L.length < ks.length := Nat.lt_of_not_le fun le => hn (nodup_of_len (L.map (·.2)) (ks.map (·.2)) nd (fun x hx => by
        obtain ⟨p, hp, rfl⟩ := List.mem_map.mp hx
        exact List.mem_map.mpr ⟨p, sub p hp, rfl⟩) (by omega))
      rw [decide_eq_true (by rw [l3]; omega)]
      rw [if_neg fun z => hn (hnd.mp z)] at hx
      exact iteT (e HS hx SS)

end
end Cl

set_option maxHeartbeats 0
namespace Cl
open PySem PySem.Spec PyProof.Rows L2
open GxR (TabB TabG)
open TL

section
variable {P : Program} {w : World} {K : PySem.W.Frag} {mg : Str → Option Value} {base : Heap}


def pathsP (t : List Nat) : Option (List (List Pt)) := if spl [10] 0 [] t = [[]] then some [] else allSome ((spl [10] 0 [] t).map pathP)
def textQ (v : V) : Option (List (List Pt)) := match v with
  | .str t => pathsP (tl t)
  | _ => none
def AtPs (K : PySem.W.Frag) (H : Hp) (w : V) (pss : List (List Pt)) : Prop := ∃ p ws, w = .ref p ∧ SqT K H p ws ∧ AllAt (AtP K H) ws pss
def spReadP (K : PySem.W.Frag) (CT Pf : Addr) : Sp := fun vs H Q E => ∃ v U, vs = [v] ∧ Kd K H v U ∧ TabG H Pf ∧ (∀ t, v = .str t → t.length ≤ 100000 ∧ (∀ c ∈ tl t, c < 0x110000) ∧ ∀ r ∈ spl [10] 0 [] (tl t), (spl [44, 32] 0 [] r).length < 2048) ∧
  (∀ pss w H', textQ v = some pss → Same H H' → AtPs K H' w pss → Q w H') ∧ (∀ H', textQ v = none → Same H H' → E (.ref CT) none H')
theorem spl_sub (S : List Nat) : ∀ (l acc : List Nat) (k : Nat), ∀ p ∈ spl S k acc l, ∀ c ∈ p, c ∈ acc ∨ c ∈ l
  | [], acc, k => fun p hp c hc => by
    rw [spl_nil] at hp
    rw [List.mem_singleton.mp hp] at hc
    exact .inl hc
  | a :: r, acc, 0 => fun p hp c hc => by
    have hp : p ∈ (if pre S (a :: r) = true then acc :: spl S (S.length - 1) [] r else spl S 0 (acc ++ [a]) r) := hp
    split at hp
    · rcases List.mem_cons.mp hp with rfl | hp
      · exact .inl hc
      · rcases spl_sub S r [] (S.length - 1) p hp c hc with h | h
        · cases h
        · exact .inr (List.mem_cons_of_mem _ h)
    · rcases spl_sub S r (acc ++ [a]) 0 p hp c hc with h | h
      · rcases List.mem_append.mp h with h | h
        · exact .inl h
        · rw [List.mem_singleton.mp h]
          exact .inr List.mem_cons_self
      · exact .inr (List.mem_cons_of_mem _ h)
  | a :: r, acc, k + 1 => fun p hp c hc => by
    rcases spl_sub S r acc k p hp c hc with h | h
    · exact .inl h
    · exact .inr (List.mem_cons_of_mem _ h)
theorem strs_dp {K : PySem.W.Frag} {H : Hp} : ∀ ys : List Str, DpAll K H (ys.map V.str) (ys.map PyData.str)
  | [] => .nil
  | y :: r => .cons (.str y) (strs_dp r)
theorem eqv_rows (ys : List Str) : PyData.eqv (.list (ys.map PyData.str)) (.list [.str (("" : String) : Str)]) = decide (ys.map tl = [[]]) := by
  match ys with
  | [] => rfl
  | [y] =>
    rw [Bool.eq_iff_iff]
    simp only [List.map_cons, List.map_nil, PyData.eqv, PyData.eqvAll, Bool.and_true, decide_eq_true_eq, beq_iff_eq]
    exact ⟨fun h => by rw [h]; rfl, fun h => ext_tl (by have := List.cons.inj h; exact this.1)⟩
  | y :: z :: r =>
    rw [Bool.eq_iff_iff]
    simp [PyData.eqv, PyData.eqvAll]
theorem shaped_rows {ys : List Str} (h : ∀ y ∈ ys, ∀ c ∈ tl y, c < 0x110000) : SeqAt.shaped (.list (ys.map PyData.str)) = true := by
  have h1 : ∀ zs : List Str, (∀ y ∈ zs, ∀ c ∈ tl y, c < 0x110000) → PyData.canLayAll0 (zs.map PyData.str) = true := fun zs => by
    induction zs with
    | nil => exact fun _ => rfl
    | cons z zs ih =>
      intro h
      have a : PyData.canLay0 (.str z) = true := by
        show (z.cps.all fun c => decide (c < 0x110000)) = true
        rw [← Array.all_toList]
        exact List.all_eq_true.mpr fun c hc => decide_eq_true (h z List.mem_cons_self c hc)
      show (PyData.canLay0 (.str z) && PyData.canLayAll0 (zs.map PyData.str)) = true
      rw [a, ih fun y hy => h y (List.mem_cons_of_mem _ hy)]
      rfl
  have h2 : ∀ zs : List Str, PyData.depthAll (zs.map PyData.str) = 0 := fun zs => by
    induction zs with
    | nil => rfl
    | cons z zs ih =>
      simp only [List.map_cons, PyData.depthAll, ih]
      rfl
  simp [SeqAt.shaped, PyData.canLay0, PyData.depth, h1 ys h, h2]
theorem AtP.upd {K : PySem.W.Frag} {L : Addr} {H : Hp} {ys : List V} {o : HO} {v : V} {ps : List Pt} (h : AtP K H v ps) (e : H L = some (.lst ys)) : AtP K (upd H L o) v ps := by
  obtain ⟨a, vs, rfl, h1, h2⟩ := h
  exact ⟨a, vs, rfl, updT e h1, h2.map fun _ _ ⟨b, eb, hb⟩ => ⟨b, eb, updT e hb⟩⟩
theorem kd_nostrQ {K : PySem.W.Frag} {H : Hp} {v : V} {U : String} (h : Kd K H v U) (e : U ≠ "str") : textQ v = none := by
  cases h <;> first | rfl | exact absurd rfl e

theorem okread_paths {f Pt : Addr} {fd : FuncData} (F : Fun K "read_paths" "read_paths" sread_paths f fd) (T : Bt mg) {CT : Addr} (hX : XC K mg "NoText" CT) (Drows_of : DefX P w K mg base 1 "rows_of" ["text"] (spRows K CT)) (Dpath_in : DefX P w K mg base 6 "path_in" ["row"] (spPathIn K CT Pt)) :
    FnG P w K mg base (L2.CX P w) 7 f fd ["text"] (spReadP K CT Pt) := by
  refine okGX (k := 6) F scread_paths (fun vs H Q E h => ?_) (fun cdv A outer s H vs Q E hr h => ?_)
  · obtain ⟨v, U, rfl, _⟩ := h
    rfl
  · obtain ⟨v, U, rfl, hk, hT, hl, q, e⟩ := h
    refine ⟨_, (pss_cons (ps_set (i := 1) scread_paths.nd rfl (.inl rfl) (callDX Drows_of (takes_of rfl rfl rfl rfl) (hr.mono (by decide)) (pa_cons (pv 0) pa_nil)))
      (pss_cons (ps_if (pt_cmpR (op_eqD hr.room.units) (pv 1) (lstN (pa_cons pe_str pa_nil)) (nomark _)) (pss_one (ps_ret (tupN pa_nil))) pss_nil)
      (pss_one (ps_ret (pe_callTy call_tuple_ofN (by rfl) T.tuple (by decide +kernel) (pa_cons (pe_lcX (W := fun cls d _ H => E cls d H) (own := [("row", 2)]) (g := gName 2) (tt := tYes) (te := (fun _ => tCallE (spPathIn K CT Pt) (fun _ cls d H => E cls d H) (tCons (tVar 2) tNil))) rfl rfl (takes_of rfl rfl rfl rfl) (by rfl) scread_paths.nd (pi_list (pv 1)) (blkOk_by (own := [("row", 2)]) (N := ["text", "rows", "row"]) (sc := defScope sread_paths) (by decide +kernel)) (fun _ _ _ _ _ => (pg_name (i := 2) scread_paths.nd rfl (.inl rfl))) (fun _ _ _ _ _ => pts_nil) (fun _ _ _ _ _ _ _ hx => (callDXp (EE := fun τ => _) Dpath_in hx (hr.mono (by decide)) (pa_cons (pv 2) pa_nil)))) pa_nil)))))), ?_⟩
    refine ⟨_, rfl, v, U, rfl, hk, fun t ht => ⟨(hl t ht).1, fun p1 n1 => ?_⟩, fun hu => e H (kd_nostrQ hk hu) (.refl _)⟩
    subst ht
    obtain ⟨lt, ok, rw8⟩ := hl t rfl
    obtain ⟨sz1, sz2⟩ := split_sz (a := t) (b := (("
" : String) : Str)) (by decide) kb10
    have e10 := split_tl t (("
" : String) : Str) (by decide) kb10
    obtain ⟨ys, hys⟩ : ∃ ys, ys = Txt.split t (("
" : String) : Str) := ⟨_, rfl⟩
    rw [← hys] at sz1 sz2 e10 ⊢
    have e10 : ys.map tl = spl [10] 0 [] (tl t) := e10
    have hx : textQ (.str t) = if ys.map tl = [[]] then some [] else allSome ((ys.map tl).map pathP) := by
      show pathsP (tl t) = _
      unfold pathsP
      rw [← e10]
    have oky : ∀ y ∈ ys, ∀ c ∈ tl y, c < 0x110000 := fun y hy c hc => by
      have m : tl y ∈ spl [10] 0 [] (tl t) := by
        rw [← e10]
        exact List.mem_map.mpr ⟨y, hy, rfl⟩
      rcases spl_sub _ _ _ _ _ m c hc with h | h
      · cases h
      · exact ok c h
    have s1 : Same H (upd H p1 (.lst (ys.map V.str))) := same_new n1
    have e1 : upd H p1 (.lst (ys.map V.str)) p1 = some (.lst (ys.map V.str)) := upd_same
    generalize upd H p1 (.lst (ys.map V.str)) = H1 at s1 e1 ⊢
    refine ⟨_, rfl, (by show 1 ≤ sizeLine; decide), fun p2 H2 n2 s2 e2 => ?_⟩
    refine ⟨.list (ys.map PyData.str), .list [.str (("" : String) : Str)], .lst (.inl (.inl (s2 _ _ e1))) (strs_dp ys), .lst (.inl (.inl e2)) (.cons (.str _) .nil), shaped_rows oky, by decide +kernel, _, rfl, ?_⟩
    rw [eqv_rows]
    have s12 := s1.trans s2
    have e12 := s2 _ _ e1
    by_cases he : ys.map tl = [[]]
    · rw [decide_eq_true he]
      rw [if_pos he] at hx
      refine iteT ⟨Nat.zero_le _, fun p3 H3 n3 s3 e3 => ?_⟩
      exact q [] _ H3 hx (s12.trans s3) ⟨p3, [], rfl, .inl (.inl e3), .nil⟩
    rw [decide_eq_false he]
    rw [if_neg he] at hx
    refine iteF ⟨_, rfl, p1, rfl, ⟨_, .inl (.inl e12)⟩, fun pD nD => ?_⟩
    refine lcL (K := K) (a := p1) (xs := ys.map V.str) (fun i H' => Same H2 H' ∧ ∃ ws ls, H' pD = some (.lst ws) ∧ AllAt (AtP K H') ws ls ∧ ((ys.take i).map tl).map pathP = ls.map some) nD (fun H' e1 e2 => ⟨e1, [], [], e2, .nil, rfl⟩) (fun i H' _ z => .inl (.inl (show H' p1 = some (.lst (ys.map V.str)) from z.1 _ _ e12))) (fun i z H' hz w => ?_) (fun H6 z => ?_)
    · obtain ⟨t1, ws, ls, t2, t3, t4⟩ := w
      rw [List.getElem?_map] at hz
      obtain ⟨y, hy, rfl⟩ := Option.map_eq_some_iff.mp hz
      have my := List.mem_of_getElem? hy
      have ly := sz2 y my
      have S := s12.trans t1
      have my8 := rw8 (tl y) (by rw [← e10]; exact List.mem_map.mpr ⟨y, my, rfl⟩)
      refine ⟨rfl, _, rfl, y, rfl, S.tab hT, by omega, my8, fun l v7 H7 hP s7 hv7 => ?_, fun H7 hP s7 => ?_⟩
      · have t2' := s7 _ _ t2
        refine ⟨_, t2', ?_, fun b' o z => ?_, ws ++ [v7], ls ++ [l], upd_same, ?_, ?_⟩
        · have := t3.length
          have l2 := congrArg List.length t4
          rw [List.length_map, List.length_map, List.length_map, List.length_take] at l2
          exact Nat.lt_of_lt_of_le (show ws.length < 100002 by omega) (by decide)
        · rw [upd_ne (ne_of_none z nD)]
          exact (t1.trans s7) _ _ z
        · exact (t3.map fun _ _ z => AtP.upd (AtP.same z s7) t2').app (.cons (AtP.upd hv7 t2') .nil)
        · rw [List.take_add_one, hy, List.map_append, List.map_append, t4, List.map_append]
          show _ ++ [pathP (tl y)] = _
          rw [hP]
          rfl
      · refine e H7 ?_ (S.trans s7)
        have m : none ∈ (ys.map tl).map pathP := by
          rw [List.map_map]
          exact List.mem_map.mpr ⟨y, my, hP⟩
        rw [hx]
        exact allSome_mem m
    obtain ⟨t1, ws, ls, t2, t3, t4⟩ := z
    rw [List.length_map, List.take_length] at t4
    refine ⟨pD, ws, rfl, .inl (.inl t2), fun pU HU nU sU eU => ?_⟩
    refine q ls _ HU ?_ (s12.trans (t1.trans sU)) ⟨pU, ws, rfl, .inl (.inl eU), t3.map fun _ _ z => AtP.same z sU⟩
    rw [hx, t4, allSome_map]

end
end Cl

set_option maxHeartbeats 0
namespace Cl
open PySem PySem.Spec PyProof.Rows L2
open GxR (TabB TabG)
open TL

section
variable {P : Program} {w : World} {K : PySem.W.Frag} {mg : Str → Option Value} {base : Heap}


def okP (p : Pt) : Prop := okN p.1 ∧ okN p.2
def ptL (p : Pt) : List Nat := joinL [32] [iL p.1, iL p.2]
def pthL (ps : List Pt) : List Nat := joinL [44, 32] (ps.map ptL)
def psL (pss : List (List Pt)) : List Nat := joinL [10] (pss.map pthL)
def psS (pss : List (List Pt)) : Str := toS (psL pss)
def nC (pss : List (List Pt)) : Nat := (pss.map (·.length)).sum
/-- drawings that the law writes -/
structure okD (pss : List (List Pt)) : Prop where
  pt : ∀ ps ∈ pss, ∀ p ∈ ps, okP p
  c : nC pss ≤ 1000
  n : pss.length ≤ 600
theorem ptL_len {p : Pt} (k : okP p) : (ptL p).length ≤ 63 := by
  have a := iL_len k.1
  have b := iL_len k.2
  show (iL p.1 ++ ([32] ++ iL p.2)).length ≤ 63
  rw [List.length_append, List.length_append, List.length_singleton]
  omega
theorem pthL_len {ps : List Pt} (k : ∀ p ∈ ps, okP p) : (pthL ps).length ≤ 65 * ps.length := by
  have h := joinL_len [44, 32] (ps.map ptL)
  have h1 : ∀ x ∈ (ps.map ptL).map (·.length), x ≤ 63 := fun x hx => by
    rw [List.map_map] at hx
    obtain ⟨p, hp, rfl⟩ := List.mem_map.mp hx
    exact ptL_len (k p hp)
  have h2 := sum_le h1
  rw [List.length_map, List.length_map] at h2
  rw [List.length_map] at h
  have : ([44, 32] : List Nat).length = 2 := rfl
  rw [this] at h
  show (joinL [44, 32] (ps.map ptL)).length ≤ _
  omega
theorem sum_pth : ∀ {pss : List (List Pt)}, (∀ ps ∈ pss, ∀ p ∈ ps, okP p) → ((pss.map pthL).map (·.length)).sum ≤ 65 * nC pss
  | [], _ => Nat.zero_le _
  | ps :: r, h => by
    have a := pthL_len (h ps List.mem_cons_self)
    have b := sum_pth fun q hq => h q (List.mem_cons_of_mem _ hq)
    show (pthL ps).length + ((r.map pthL).map (·.length)).sum ≤ 65 * (ps.length + nC r)
    omega
theorem psL_len {pss : List (List Pt)} (k : okD pss) : (psL pss).length ≤ 66000 := by
  have h := joinL_len [10] (pss.map pthL)
  have a := sum_pth k.pt
  have b := k.c
  have c := k.n
  rw [List.length_map] at h
  have : ([10] : List Nat).length = 1 := rfl
  rw [this] at h
  show (joinL [10] (pss.map pthL)).length ≤ _
  omega
theorem pt_str (p : Pt) : Str.empty ++ Str.ofString (toString p.1) ++ ((" " : String) : Str) ++ Str.ofString (toString p.2) = toS (ptL p) := ext_tl (by
  simp only [tl_append, tl_int]
  rw [tl_toS]
  show (([] ++ iL p.1 ++ [32] ++ iL p.2) : List Nat) = iL p.1 ++ ([32] ++ iL p.2)
  simp)
theorem join_toS (y : Str) (ls : List (List Nat)) : Txt.join y (ls.map toS) = toS (joinL (tl y) ls) := ext_tl (by
  rw [join_eq, tl_join, List.map_map, tl_toS]
  congr 1
  exact List.map_id _)
theorem nC_le {pss : List (List Pt)} {ps : List Pt} (h : ps ∈ pss) : ps.length ≤ nC pss := by
  induction pss with
  | nil => cases h
  | cons q r ih =>
    show ps.length ≤ q.length + nC r
    rcases List.mem_cons.mp h with rfl | h
    · omega
    · have := ih h
      omega
def spPathRow (K : PySem.W.Frag) : Sp := fun vs H Q _ => ∃ v ps, vs = [v] ∧ AtP K H v ps ∧ (∀ p ∈ ps, okP p) ∧ ps.length ≤ 1000 ∧ ∀ H', Same H H' → Q (.str (toS (pthL ps))) H'
def spShowP (K : PySem.W.Frag) : Sp := fun vs H Q _ => ∃ v pss, vs = [v] ∧ AtPs K H v pss ∧ okD pss ∧ ∀ H', Same H H' → Q (.str (psS pss)) H'

theorem okpath_row {f : Addr} {fd : FuncData} (F : Fun K "path_row" "path_row" spath_row f fd) (T : Bt mg) :
    FnG P w K mg base CX0 1 f fd ["path"] (spPathRow K) := by
  refine okG (k := 0) F scpath_row (fun vs H Q E h => ?_) (fun cdv A outer s H vs Q E hr h => ?_)
  · obtain ⟨v, ps, rfl, _⟩ := h
    rfl
  · obtain ⟨v, ps, rfl, hv, kp, lp, q⟩ := h
    refine ⟨_, (pss_one (ps_ret (pe_join pe_str (pe_lc (own := [("i", 1), ("j", 2)]) (g := gTup K 2 (gCons (gName 1) (gCons (gName 2) gNil))) (tt := tYes) (by rfl) scpath_row.nd (pi_tup (pv 0)) (blkOk_by (own := [("i", 1), ("j", 2)]) (N := ["path", "i", "j"]) (sc := defScope spath_row) (by decide +kernel)) (fun _ _ _ _ _ => (pg_tup (by rfl) (pgs_cons (pg_name (i := 1) scpath_row.nd rfl (.inl rfl)) (pgs_cons (pg_name (i := 2) scpath_row.nd rfl (.inl rfl)) pgs_nil)))) (fun _ _ _ _ _ => pts_nil) (fun _ _ _ _ _ => (pe_joined (.cons (pe_fmt (pv 1)) (.cons pe_str (.cons (pe_fmt (pv 2)) .nil))))))))), ?_⟩
    obtain ⟨a, vs, rfl, hS, hA⟩ := hv
    have z1 : ((" " : String) : Str).length ≤ 1 := by decide
    have z0 : (Str.empty : Str).length ≤ 0 := by decide
    refine ⟨⟨_, rfl⟩, _, rfl, a, rfl, ⟨_, hS⟩, fun pD nD => ?_⟩
    refine lcT (K := K) (a := a) (xs := vs) (te := fun σ H Q => tJs [tFmt (tVar 1), tC (.str ((" " : String) : Str)), tFmt (tVar 2)] Str.empty σ H fun out H1 => Q (.str out) H1) (fun i H' => Same H H' ∧ H' pD = some (.lst ((ps.take i).map fun p => V.str (toS (ptL p))))) nD (fun H' e1 e2 => ⟨e1, e2⟩) (fun i H' _ z => seT z.1 hS) (fun i z H' hz w => ?_) (fun H6 z => ?_)
    · obtain ⟨t1, t2⟩ := w
      obtain ⟨p, hp, b, rfl, hb⟩ := hA.get hz
      obtain ⟨k1, k2⟩ := kp p (List.mem_of_getElem? hp)
      have e2 := acc_len z0 (str_len k1)
      have e3 := acc_len e2 z1
      have e4 := acc_len e3 (str_len k2)
      refine ⟨b, _, rfl, seT t1 hb, rfl, _, _, rfl, _, _, rfl, rfl, rfl, _, rfl, .inr ⟨_, rfl, k1.log, _, rfl, le_sz e2 (by decide), _, rfl, le_sz e3 (by decide), _, rfl, .inr ⟨_, rfl, k2.log, _, rfl, le_sz e4 (by decide), ?_⟩⟩⟩
      rw [pt_str]
      refine ⟨_, t2, ?_, fun b' o z => ?_, ?_⟩
      · rw [List.length_map, List.length_take]
        exact small1000 (by omega)
      · rw [upd_ne (ne_of_none z nD)]
        exact t1 _ _ z
      · rw [List.take_add_one, hp, List.map_append]
        exact upd_same
    obtain ⟨t1, t2⟩ := z
    rw [hA.length, List.take_length] at t2
    have e0 : (ps.map fun p => V.str (toS (ptL p))) = ((ps.map ptL).map toS).map V.str := by rw [List.map_map, List.map_map]; rfl
    rw [e0] at t2
    refine ⟨_, pD, (ps.map ptL).map toS, rfl, rfl, .inl (.inl (.inl t2)), ?_, ?_⟩
    · have h1 : ∀ x ∈ ((ps.map ptL).map toS).map (·.length), x ≤ 63 := fun x hx => by
        rw [List.map_map, List.map_map] at hx
        obtain ⟨p, hp, rfl⟩ := List.mem_map.mp hx
        show (toS (ptL p)).length ≤ 63
        rw [len_tl, tl_toS]
        exact ptL_len (kp p hp)
      have h2 := sum_le h1
      rw [List.length_map] at h2
      have h4 : ((", " : String) : Str).length = 2 := by decide
      rw [h4]
      have h3 : ((ps.map ptL).map toS).length = ps.length := by rw [List.length_map, List.length_map]
      omega
    · rw [join_toS]
      exact q H6 t1

theorem okshow_paths {f : Addr} {fd : FuncData} (F : Fun K "show_paths" "show_paths" sshow_paths f fd) (T : Bt mg) (Dpath_row : Def P w K mg base 1 "path_row" ["path"] (spPathRow K)) :
    FnG P w K mg base CX0 2 f fd ["paths"] (spShowP K) := by
  refine okG (k := 1) F scshow_paths (fun vs H Q E h => ?_) (fun cdv A outer s H vs Q E hr h => ?_)
  · obtain ⟨v, pss, rfl, _⟩ := h
    rfl
  · obtain ⟨v, pss, rfl, hv, kd, q⟩ := h
    refine ⟨_, (pss_one (ps_ret (pe_join pe_str (pe_lc (own := [("path", 1)]) (g := gName 1) (tt := tYes) (by rfl) scshow_paths.nd (pi_tup (pv 0)) (blkOk_by (own := [("path", 1)]) (N := ["paths", "path"]) (sc := defScope sshow_paths) (by decide +kernel)) (fun _ _ _ _ _ => (pg_name (i := 1) scshow_paths.nd rfl (.inl rfl))) (fun _ _ _ _ _ => pts_nil) (fun _ _ _ _ _ => (callD Dpath_row (hr.mono (by decide)) (pa_cons (pv 1) pa_nil))))))), ?_⟩
    obtain ⟨a, vs, rfl, hS, hA⟩ := hv
    refine ⟨⟨_, rfl⟩, _, rfl, a, rfl, ⟨_, hS⟩, fun pD nD => ?_⟩
    refine lcT (K := K) (a := a) (xs := vs) (fun i H' => Same H H' ∧ H' pD = some (.lst ((pss.take i).map fun ps => V.str (toS (pthL ps))))) nD (fun H' e1 e2 => ⟨e1, e2⟩) (fun i H' _ z => seT z.1 hS) (fun i z H' hz w => ?_) (fun H6 z => ?_)
    · obtain ⟨t1, t2⟩ := w
      obtain ⟨ps, hp, hv⟩ := hA.get hz
      have m := List.mem_of_getElem? hp
      have l1 := nC_le m
      have l2 := kd.c
      have hi : i < pss.length := (List.getElem?_eq_some_iff.mp hp).1
      have l3 := kd.n
      refine ⟨rfl, _, rfl, _, ps, rfl, AtP.same (K := K) hv t1, kd.pt ps m, by omega, fun H7 s7 => ?_⟩
      have t2' := s7 _ _ t2
      refine ⟨_, t2', ?_, fun b' o z => ?_, ?_⟩
      · rw [List.length_map, List.length_take]
        exact small1000 (by omega)
      · rw [upd_ne (ne_of_none z nD)]
        exact (t1.trans s7) _ _ z
      · rw [List.take_add_one, hp, List.map_append]
        exact upd_same
    obtain ⟨t1, t2⟩ := z
    rw [hA.length, List.take_length] at t2
    have e0 : (pss.map fun p => V.str (toS (pthL p))) = ((pss.map pthL).map toS).map V.str := by rw [List.map_map, List.map_map]; rfl
    rw [e0] at t2
    refine ⟨_, pD, (pss.map pthL).map toS, rfl, rfl, .inl (.inl (.inl t2)), ?_, ?_⟩
    · have h0 : ((pss.map pthL).map toS).map (·.length) = (pss.map pthL).map (·.length) := by
        rw [List.map_map]
        refine List.map_congr_left fun x _ => ?_
        show (toS x).length = x.length
        rw [len_tl, tl_toS]
      rw [h0]
      have h1 := sum_pth kd.pt
      have h2 := kd.c
      have h3 := kd.n
      have h4 : (("\n" : String) : Str).length = 1 := by decide
      rw [h4, List.length_map, List.length_map]
      omega
    · rw [join_toS]
      exact q H6 t1

end
end Cl

set_option maxHeartbeats 0
namespace Cl
open PySem PySem.Spec PyProof.Rows L2
open GxR (TabB TabG)
open TL

section
variable {P : Program} {w : World} {K : PySem.W.Frag} {mg : Str → Option Value} {base : Heap}


def spPaths6 (K : PySem.W.Frag) : Sp := fun vs H Q _ => ∃ (d l : Addr) (n g : Nat) (way : Int), vs = [.ref d, .int n, .int g, .int way] ∧ n ≤ 600 ∧ 1 ≤ g ∧ g ≤ 60 ∧ 0 ≤ way ∧ way ≤ 4 ∧ Deck H d l ∧
  ∀ w pss H', Step d l H H' → AtPs K H' w pss → (∀ ps ∈ pss, (∀ p ∈ ps, okP p) ∧ ps.Nodup ∧ ps ≠ [] ∧ ps.length ≤ g) → pss.length = n → Q w H'
theorem canPts6 : ∀ ps : List Pt, PyData.canLayAll0 (ps.map pd) = true
  | [] => rfl
  | p :: r => by
    have ih := canPts6 r
    simp [PyData.canLayAll0, PyData.canLay0, pd, ih]
theorem depPts6 : ∀ ps : List Pt, PyData.depthAll (ps.map pd) ≤ 1
  | [] => by decide
  | p :: r => by
    have ih := depPts6 r
    have h : (pd p).depth ≤ 1 := by simp [pd, PyData.depth, PyData.depthAll]
    simp only [List.map_cons, PyData.depthAll]
    omega
theorem shapedPts6 (ps : List Pt) : SeqAt.shaped (.list (ps.map pd)) = true := by
  have h1 := canPts6 ps
  have h2 := depPts6 ps
  simp [SeqAt.shaped, PyData.canLay0, PyData.depth, h1]
  omega
theorem pts_dp6 {K : PySem.W.Frag} {H : Hp} : ∀ {ws : List V} {ps : List Pt}, AllAt (At2 K H) ws ps → DpAll K H ws (ps.map pd)
  | _, _, .nil => .nil
  | _, _, .cons h t => .cons h.dp (pts_dp6 t)
theorem any_pt (c : Pt) : ∀ ps : List Pt, (ps.map pd).any (fun z => PyData.eqv z (pd c)) = decide (c ∈ ps)
  | [] => rfl
  | p :: r => by
    rw [List.map_cons, List.any_cons, any_pt c r, eqv_pd9, Bool.eq_iff_iff]
    simp only [Bool.or_eq_true, decide_eq_true_eq, List.mem_cons]
    exact or_congr ⟨Eq.symm, Eq.symm⟩ Iff.rfl
theorem At2.upd6 {K : PySem.W.Frag} {L : Addr} {H : Hp} {ys : List V} {o : HO} {v : V} {p : Pt} (h : At2 K H v p) (e : H L = some (.lst ys)) : At2 K (L2.upd H L o) v p := by
  obtain ⟨b, eb, hb⟩ := h
  exact ⟨b, eb, updT e hb⟩
theorem AtP.step6 {K : PySem.W.Frag} {d l : Addr} {H H' : Hp} {v : V} {ps : List Pt} (h : AtP K H v ps) (S : Step d l H H') (D : Deck H d l) : AtP K H' v ps := by
  obtain ⟨a, vs, rfl, h1, h2⟩ := h
  exact ⟨a, vs, rfl, stT S D h1, h2.map fun _ _ z => z.step S D⟩
theorem AtPs.step6 {K : PySem.W.Frag} {d l : Addr} {H H' : Hp} {v : V} {pss : List (List Pt)} (h : AtPs K H v pss) (S : Step d l H H') (D : Deck H d l) : AtPs K H' v pss := by
  obtain ⟨a, vs, rfl, h1, h2⟩ := h
  exact ⟨a, vs, rfl, stT S D h1, h2.map fun _ _ z => z.step6 S D⟩
theorem AtPs.same6 {K : PySem.W.Frag} {H H' : Hp} {v : V} {pss : List (List Pt)} (h : AtPs K H v pss) (s : Same H H') : AtPs K H' v pss := by
  obtain ⟨a, vs, rfl, h1, h2⟩ := h
  exact ⟨a, vs, rfl, seT s h1, h2.map fun _ _ z => AtP.same z s⟩

theorem ok_law_paths {f : Addr} {fd : FuncData} (F : Fun K "_law_paths" "_law_paths" s_law_paths f fd) (T : Bt mg) (D_law_pair : Def P w K mg base 3 "_law_pair" ["_law_deck_here", "_law_way"] (spPair5 K)) (D_law_draw : Def P w K mg base 1 "_law_draw" ["_law_deck_here", "_law_most"] spDraw) :
    FnG P w K mg base CX0 4 f fd ["_law_deck_here", "_law_many", "_law_long", "_law_way"] (spPaths6 K) := by
  refine okG (k := 3) F sc_law_paths (fun vs H Q E h => ?_) (fun cdv A outer s H vs Q E hr h => ?_)
  · obtain ⟨d, l, n, g, way, rfl, _⟩ := h
    rfl
  · obtain ⟨d, l, n, g, way, rfl, n6, g1, g6, w0, w4, D, q⟩ := h
    refine ⟨_, (pss_cons (ps_set (i := 4) sc_law_paths.nd rfl (.inl rfl) (lstN pa_nil))
      (pss_cons (ps_for PassesOwn.never rfl (pi_range1 (by rfl) T.range (pa_cons (pv 1) pa_nil)) (pg_name (i := 5) sc_law_paths.nd rfl (.inl rfl)) (pss_cons (ps_set (i := 6) sc_law_paths.nd rfl (.inl rfl) (lstN pa_nil))
      (pss_cons (ps_for PassesOwn.never rfl (pi_range1 (by rfl) T.range (pa_cons (pe_op op_add pe_int (callD D_law_draw (hr.mono (by decide)) (pa_cons (pv 0) (pa_cons (pv 2) pa_nil)))) pa_nil)) (pg_name (i := 7) sc_law_paths.nd rfl (.inl rfl)) (pss_cons (ps_set (i := 8) sc_law_paths.nd rfl (.inl rfl) (callD D_law_pair (hr.mono (by decide)) (pa_cons (pv 0) (pa_cons (pv 3) pa_nil))))
      (pss_one (ps_if (pt_cmpR (op_notInD (Nat.lt_of_le_of_lt (Nat.add_le_add (Nat.le_add_right _ _) (by decide : 65 ≤ 200)) hr.room.un)) (pv 8) (pv 6) (by rfl)) (pss_one (ps_expr (pe_bm PySem.F.plainAttrs_list PySem.F.slot_list_append PySem.F.type_list_append mt_append (pv 6) (pa_cons (pv 8) pa_nil)))) pss_nil))))
      (pss_one (ps_expr (pe_bm PySem.F.plainAttrs_list PySem.F.slot_list_append PySem.F.type_list_append mt_append (pv 4) (pa_cons (pe_callTy call_tuple_ofN (by rfl) T.tuple (by decide +kernel) (pa_cons (pv 6) pa_nil)) pa_nil)))))))
      (pss_one (ps_ret (pe_callTy call_tuple_ofN (by rfl) T.tuple (by decide +kernel) (pa_cons (pv 4) pa_nil)))))), ?_⟩
    refine ⟨Nat.zero_le _, fun L H1 nL sL eL => ?_⟩
    have nd := D.nd nL
    refine ⟨_, rfl, (n : Int), rfl, by omega, by omega, ?_⟩
    rw [Int.toNat_natCast]
    refine for_range (n := n) (fun i σ' H' => ∃ y5 y6 y7 y8, σ' = [some (.ref d), some (.int n), some (.int g), some (.int way), some (.ref L), y5, y6, y7, y8] ∧ Step d l H H' ∧ ∃ ws pss, H' L = some (.lst ws) ∧ AllAt (AtP K H') ws pss ∧ (∀ ps ∈ pss, (∀ p ∈ ps, okP p) ∧ ps.Nodup ∧ ps ≠ [] ∧ ps.length ≤ g) ∧ pss.length = i) ?_ ?_ ?_
    · exact ⟨_, _, _, _, rfl, Step.of D sL, [], [], eL, .nil, (fun r hr => (List.not_mem_nil hr).elim), rfl⟩
    · rintro i σ' H2 hi ⟨y5, y6, y7, y8, rfl, S2, ws, pss, e2, hA, kp, ln⟩
      refine ⟨Nat.zero_le _, fun M H3 nM sM eM => ?_⟩
      have S3 := Step.of S2.deck sM
      have ndM := S2.deck.nd nM
      have e3 := sM _ _ e2
      have neM : M ≠ L := fun z => by rw [z, e2] at nM; cases nM
      refine ⟨_, rfl, _, rfl, d, l, g, rfl, by omega, by omega, S3.deck, fun x H4 x0 x1 S4 => ?_⟩
      obtain ⟨xn, rfl⟩ := Int.eq_ofNat_of_zero_le x0
      refine ⟨_, _, rfl, rfl, 1 + (xn : Int), rfl, by omega, by omega, ?_⟩
      rw [show (1 + (xn : Int)).toNat = xn + 1 by omega]
      have e4 := S4.at nd.1 nd.2 e3
      have m4 := S4.at ndM.1 ndM.2 eM
      have hA4 := (hA.map fun _ _ z => AtP.same z sM).map fun _ _ z => z.step6 S4 S3.deck
      have S34 := S3.trans S4
      refine for_range (n := xn + 1) (fun j σ' H' => ∃ y7 y8, σ' = [some (.ref d), some (.int n), some (.int g), some (.int way), some (.ref L), some (.int (0 + (i : Int))), some (.ref M), y7, y8] ∧ Step d l H2 H' ∧ H' L = some (.lst ws) ∧ AllAt (AtP K H') ws pss ∧ ∃ us ps, H' M = some (.lst us) ∧ AllAt (At2 K H') us ps ∧ (∀ p ∈ ps, okP p) ∧ ps.Nodup ∧ ps.length ≤ j ∧ (0 < j → ps ≠ [])) ?_ ?_ ?_
      · exact ⟨_, _, rfl, S34, e4, hA4, [], [], m4, .nil, (fun r hr => (List.not_mem_nil hr).elim), .nil, Nat.le_refl _, fun z => absurd z (by decide)⟩
      · rintro j σ' H5 hj ⟨y7, y8, rfl, S5, e5, hA5, us, ps, m5, hu, ku, ndu, lu, neu⟩
        refine ⟨_, rfl, _, rfl, d, l, way, rfl, w0, w4, S5.deck, fun v c H6 S6 hv k1 k2 => ?_⟩
        have S56 := S5.trans S6
        have e6 := S6.at nd.1 nd.2 e5
        have m6 := S6.at ndM.1 ndM.2 m5
        have hA6 := hA5.map fun _ _ z => z.step6 S6 S5.deck
        have hu6 := hu.map fun _ _ z => At2.step (K := K) z S6 S5.deck
        refine ⟨_, rfl, _, rfl, pd c, ps.map pd, hv.dp, .lst (.inl (.inl m6)) (pts_dp6 hu6), rfl, shapedPts6 ps, _, rfl, ?_⟩
        rw [any_pt]
        by_cases hc : c ∈ ps
        · rw [decide_eq_true hc]
          exact iteF ⟨_, _, rfl, S56, e6, hA6, us, ps, m6, hu6, ku, ndu, by omega, fun _ z => by rw [z] at hc; cases hc⟩
        · rw [decide_eq_false hc]
          refine iteT ⟨_, rfl, .inl ⟨rfl, _, .inl (.inl m6)⟩, _, rfl, M, _, _, rfl, rfl, m6, ?_, ?_⟩
          · rw [hu6.length]
            exact small1000 (by omega)
          · refine ⟨_, _, rfl, S56.updN ndM.1 ndM.2 nM, ?_, hA6.map fun _ _ z => AtP.upd z m6, us ++ [v], ps ++ [c], upd_same, (hu6.map fun _ _ z => At2.upd6 z m6).app (.cons (At2.upd6 hv m6) .nil), ?_, ?_, ?_, fun _ z => by simp at z⟩
            · rw [upd_ne neM.symm]
              exact e6
            · intro p hp
              rcases List.mem_append.mp hp with hp | hp
              · exact ku p hp
              · rw [List.mem_singleton.mp hp]
                exact ⟨k1, k2⟩
            · exact List.nodup_append.mpr ⟨ndu, by simp, fun a ha b hb z => by rw [List.mem_singleton.mp hb] at z; rw [z] at ha; exact hc ha⟩
            · rw [List.length_append, List.length_singleton]
              omega
      · rintro σ' H5 ⟨y7, y8, rfl, S5, e5, hA5, us, ps, m5, hu, ku, ndu, lu, neu⟩
        refine ⟨_, rfl, .inl ⟨rfl, _, .inl (.inl e5)⟩, _, rfl, M, us, rfl, .inl (.inl m5), fun pT H6 n6 s6 e6 => ?_⟩
        have e56 := s6 _ _ e5
        refine ⟨L, _, _, rfl, rfl, e56, ?_, _, _, _, _, rfl, ((S2.trans S5).trans (Step.of S5.deck s6)).updN nd.1 nd.2 nL, ws ++ [.ref pT], pss ++ [ps], upd_same, ?_, ?_, ?_⟩
        · rw [hA5.length, ln]
          exact small1000 (by omega)
        · exact ((hA5.map fun _ _ z => AtP.same z s6).map fun _ _ z => AtP.upd z e56).app (.cons (AtP.upd ⟨pT, us, rfl, .inl (.inl e6), hu.map fun _ _ z => At2.same (K := K) z s6⟩ e56) .nil)
        · intro qs hq
          rcases List.mem_append.mp hq with hq | hq
          · exact kp qs hq
          · rw [List.mem_singleton.mp hq]
            exact ⟨ku, ndu, neu (by omega), by omega⟩
        · rw [List.length_append, List.length_singleton, ln]
    · rintro σ' H4 ⟨y5, y6, y7, y8, rfl, S4, ws, pss, e4, hA, kp, ln⟩
      refine ⟨_, rfl, L, ws, rfl, .inl (.inl e4), fun p H5 n5 s5 e5 => ?_⟩
      exact q _ pss H5 (S4.trans (Step.of S4.deck s5)) ⟨p, ws, rfl, .inl (.inl e5), hA.map fun _ _ z => AtP.same z s5⟩ kp ln

end
end Cl

set_option maxHeartbeats 0
namespace Cl
open PySem PySem.Spec PyProof.Rows L2
open GxR (TabB TabG)
open TL

section
variable {P : Program} {w : World} {K : PySem.W.Frag} {mg : Str → Option Value} {base : Heap}


/-- paths that the law makes -/
structure Gd (pss : List (List Pt)) : Prop where
  d : okD pss
  ne : ∀ ps ∈ pss, ps ≠ [] ∧ ps.Nodup
def spFar6 (K : PySem.W.Frag) : Sp := fun vs H Q _ => ∃ (d l : Addr) (so : Int), vs = [.ref d, .int so] ∧ Deck H d l ∧ ∀ w pss H', Step d l H H' → AtPs K H' w pss → Gd pss → Q w H'
theorem pt_str2 (p : Pt) : Str.ofString (toString p.1) ++ ((" " : String) : Str) ++ Str.ofString (toString p.2) = toS (ptL p) := ext_tl (by
  simp only [tl_append, tl_int]
  rw [tl_toS]
  show ((iL p.1 ++ [32] ++ iL p.2) : List Nat) = iL p.1 ++ ([32] ++ iL p.2)
  simp)
theorem nC_mul {g : Nat} : ∀ {pss : List (List Pt)}, (∀ ps ∈ pss, ps.length ≤ g) → nC pss ≤ pss.length * g
  | [], _ => Nat.zero_le _
  | ps :: r, h => by
    have a := h ps List.mem_cons_self
    have b := nC_mul fun q hq => h q (List.mem_cons_of_mem _ hq)
    show ps.length + nC r ≤ (r.length + 1) * g
    rw [Nat.add_mul]
    omega
theorem take6 {K : PySem.W.Frag} {H : Hp} : ∀ (n : Nat) {ws : List V} {ps : List Pt}, AllAt (At2 K H) ws ps → AllAt (At2 K H) (ws.take n) (ps.take n)
  | 0, _, _, _ => .nil
  | _ + 1, _, _, .nil => .nil
  | n + 1, _, _, .cons h t => .cons h (take6 n t)
theorem rev6 {K : PySem.W.Frag} {H : Hp} : ∀ {ws : List V} {ps : List Pt}, AllAt (At2 K H) ws ps → AllAt (At2 K H) ws.reverse ps.reverse
  | _, _, .nil => .nil
  | _, _, .cons h t => by
    rw [List.reverse_cons, List.reverse_cons]
    exact (rev6 t).app (.cons h .nil)
theorem gd_of {g n : Nat} {pss : List (List Pt)} (k : ∀ ps ∈ pss, (∀ p ∈ ps, okP p) ∧ ps.Nodup ∧ ps ≠ [] ∧ ps.length ≤ g) (hn : pss.length = n) (h : n * g ≤ 1000) (h2 : n ≤ 600) : Gd pss := by
  refine ⟨⟨fun ps hp => (k ps hp).1, ?_, by omega⟩, fun ps hp => ⟨(k ps hp).2.2.1, (k ps hp).2.1⟩⟩
  have := nC_mul fun ps hp => (k ps hp).2.2.2
  rw [hn] at this
  omega

theorem ok_law_paths_text {f : Addr} {fd : FuncData} (F : Fun K "_law_paths_text" "_law_paths_text" s_law_paths_text f fd) (T : Bt mg) :
    FnG P w K mg base CX0 1 f fd ["_law_paths_here"] (spShowP K) := by
  refine okG (k := 0) F sc_law_paths_text (fun vs H Q E h => ?_) (fun cdv A outer s H vs Q E hr h => ?_)
  · obtain ⟨v, pss, rfl, _⟩ := h
    rfl
  · obtain ⟨v, pss, rfl, hv, kd, q⟩ := h
    refine ⟨_, (pss_cons (ps_set (i := 1) sc_law_paths_text.nd rfl (.inl rfl) (lstN pa_nil))
      (pss_cons (ps_for PassesOwn.never rfl (pi_tup (pv 0)) (pg_name (i := 2) sc_law_paths_text.nd rfl (.inl rfl)) (pss_one (ps_expr (pe_bm PySem.F.plainAttrs_list PySem.F.slot_list_append PySem.F.type_list_append mt_append (pv 1) (pa_cons (pe_join pe_str (pe_lc (own := [("_law_i", 3), ("_law_j", 4)]) (g := gTup K 2 (gCons (gName 3) (gCons (gName 4) gNil))) (tt := tYes) (by rfl) sc_law_paths_text.nd (pi_tup (pv 2)) (blkOk_by (own := [("_law_i", 3), ("_law_j", 4)]) (N := ["_law_paths_here", "_law_rows", "_law_path", "_law_i", "_law_j"]) (sc := defScope s_law_paths_text) (by decide +kernel)) (fun _ _ _ _ _ => (pg_tup (by rfl) (pgs_cons (pg_name (i := 3) sc_law_paths_text.nd rfl (.inl rfl)) (pgs_cons (pg_name (i := 4) sc_law_paths_text.nd rfl (.inl rfl)) pgs_nil)))) (fun _ _ _ _ _ => pts_nil) (fun _ _ _ _ _ => (pe_op op_add_str (pe_op op_add_str (pe_callTy call_str_int (by rfl) T.str (by decide +kernel) (pa_cons (pv 3) pa_nil)) pe_str) (pe_callTy call_str_int (by rfl) T.str (by decide +kernel) (pa_cons (pv 4) pa_nil)))))) pa_nil)))))
      (pss_one (ps_ret (pe_join pe_str (pv 1)))))), ?_⟩
    obtain ⟨a, vs, rfl, hS, hA⟩ := hv
    have z1 : ((" " : String) : Str).length ≤ 1 := by decide
    have slz : sizeLine = 16777216 := by decide
    refine ⟨Nat.zero_le _, fun L H1 nL sL eL => ?_⟩
    have e00 : H1 L = some (.lst (((([] : List (List Pt)).map pthL).map toS).map V.str)) := eL
    refine ⟨_, rfl, a, rfl, ⟨_, seT sL hS⟩, for_tup (K := K) (a := a) (xs := vs) (fun i σ' H' => ∃ y2 y3 y4, σ' = [some (.ref a), some (.ref L), y2, y3, y4] ∧ Same H H' ∧ H' L = some (.lst ((((pss.take i).map pthL).map toS).map V.str))) ⟨_, _, _, rfl, sL, e00⟩ (fun i σ' H' _ z => by obtain ⟨_, _, _, _, s', _⟩ := z; exact seT s' hS) (fun i x σ' H' hx z => ?_) (fun σ' H' z => ?_)⟩
    · obtain ⟨y2, y3, y4, rfl, s', eL'⟩ := z
      obtain ⟨ps, hp, hv⟩ := hA.get hx
      have m := List.mem_of_getElem? hp
      obtain ⟨b, us, rfl, hb, hu⟩ := AtP.same (K := K) hv s'
      have kp := kd.pt ps m
      have l1 := nC_le m
      have l2 := kd.c
      have l3 := kd.n
      have hi : i < pss.length := (List.getElem?_eq_some_iff.mp hp).1
      refine ⟨_, rfl, .inl ⟨rfl, _, .inl (.inl eL')⟩, ⟨_, rfl⟩, _, rfl, b, rfl, ⟨_, hb⟩, fun pD nD => ?_⟩
      refine lcT (K := K) (a := b) (xs := us) (fun i H6 => Same H' H6 ∧ H6 pD = some (.lst ((ps.take i).map fun p => V.str (toS (ptL p))))) nD (fun H6 e1 e2 => ⟨e1, e2⟩) (fun i H6 _ z => seT z.1 hb) (fun i z H6 hz w => ?_) (fun H6 z => ?_)
      · obtain ⟨t1, t2⟩ := w
        obtain ⟨p, hp2, bb, rfl, hbb⟩ := hu.get hz
        obtain ⟨k1, k2⟩ := kp p (List.mem_of_getElem? hp2)
        have a1 := str_len k1
        have a2 := str_len k2
        have a3 := acc_len a1 z1
        refine ⟨bb, _, rfl, seT t1 hbb, rfl, _, _, rfl, _, _, rfl, rfl, rfl, _, rfl, _, rfl, k1.log, _, _, rfl, rfl, by omega, _, rfl, _, rfl, k2.log, _, _, rfl, rfl, by omega, ?_⟩
        rw [pt_str2]
        refine ⟨_, t2, ?_, fun b' o z => ?_, ?_⟩
        · rw [List.length_map, List.length_take]
          exact small1000 (by omega)
        · rw [upd_ne (ne_of_none z nD)]
          exact t1 _ _ z
        · rw [List.take_add_one, hp2, List.map_append]
          exact upd_same
      obtain ⟨t1, t2⟩ := z
      rw [hu.length, List.take_length] at t2
      have e0 : (ps.map fun p => V.str (toS (ptL p))) = ((ps.map ptL).map toS).map V.str := by rw [List.map_map, List.map_map]; rfl
      rw [e0] at t2
      refine ⟨_, pD, (ps.map ptL).map toS, rfl, rfl, .inl (.inl (.inl t2)), ?_, ?_⟩
      · have h1 : ∀ x ∈ ((ps.map ptL).map toS).map (·.length), x ≤ 63 := fun x hx => by
          rw [List.map_map, List.map_map] at hx
          obtain ⟨p, hp, rfl⟩ := List.mem_map.mp hx
          show (toS (ptL p)).length ≤ 63
          rw [len_tl, tl_toS]
          exact ptL_len (kp p hp)
        have h2 := sum_le h1
        rw [List.length_map] at h2
        have h4 : ((", " : String) : Str).length = 2 := by decide
        rw [h4]
        have h3 : ((ps.map ptL).map toS).length = ps.length := by rw [List.length_map, List.length_map]
        omega
      · rw [join_toS]
        have eL6 := t1 _ _ eL'
        refine ⟨L, _, _, rfl, rfl, eL6, ?_, _, _, _, rfl, (s'.trans t1).upN nL, ?_⟩
        · rw [List.length_map, List.length_map, List.length_map, List.length_take]
          exact small1000 (by omega)
        · rw [upd_same, List.take_add_one, hp]
          congr 2
          simp only [List.map_append]
          rfl
    · obtain ⟨y2, y3, y4, rfl, s', e'⟩ := z
      rw [hA.length, List.take_length] at e'
      refine ⟨⟨_, rfl⟩, _, rfl, _, L, (pss.map pthL).map toS, rfl, rfl, .inl (.inl (.inl e')), ?_, ?_⟩
      · have h0 : ((pss.map pthL).map toS).map (·.length) = (pss.map pthL).map (·.length) := by
          rw [List.map_map]
          refine List.map_congr_left fun x _ => ?_
          show (toS x).length = x.length
          rw [len_tl, tl_toS]
        rw [h0]
        have h1 := sum_pth kd.pt
        have h2 := kd.c
        have h3 := kd.n
        have h4 : (("\n" : String) : Str).length = 1 := by decide
        rw [h4, List.length_map, List.length_map]
        omega
      · rw [join_toS]
        exact q H' s'

end
end Cl

set_option maxHeartbeats 0
namespace Cl
open PySem PySem.Spec PyProof.Rows L2
open GxR (TabB TabG)
open TL

section
variable {P : Program} {w : World} {K : PySem.W.Frag} {mg : Str → Option Value} {base : Heap}

theorem ok_law_far {f : Addr} {fd : FuncData} (F : Fun K "_law_far" "_law_far" s_law_far f fd) (T : Bt mg) (D_law_draw : Def P w K mg base 1 "_law_draw" ["_law_deck_here", "_law_most"] spDraw) (D_law_paths : Def P w K mg base 4 "_law_paths" ["_law_deck_here", "_law_many", "_law_long", "_law_way"] (spPaths6 K)) :
    FnG P w K mg base CX0 5 f fd ["_law_deck_here", "_law_sort"] (spFar6 K) := by
  refine okG (k := 4) F sc_law_far (fun vs H Q E h => ?_) (fun cdv A outer s H vs Q E hr h => ?_)
  · obtain ⟨d, l, so, rfl, _⟩ := h
    rfl
  · obtain ⟨d, l, so, rfl, D, q⟩ := h
    refine ⟨_, (pss_cons (ps_if (pt_cmpR op_eq (pv 1) pe_int (nomark _)) (pss_one (ps_ret (callD D_law_paths (hr.mono (by decide)) (pa_cons (pv 0) (pa_cons (pe_op op_add pe_int (callD D_law_draw (hr.mono (by decide)) (pa_cons (pv 0) (pa_cons pe_int pa_nil)))) (pa_cons pe_int (pa_cons pe_int pa_nil))))))) pss_nil)
      (pss_cons (ps_setLc (i := 2) (own := [("_law_k", 3)]) (g := gName 3) (tt := tYes) (by rfl) sc_law_far.nd rfl rfl (sw_true rfl rfl rfl (by decide +kernel)) (pi_range1 (by rfl) T.range (pa_cons (pe_op op_add pe_int (callD D_law_draw (hr.mono (by decide)) (pa_cons (pv 0) (pa_cons pe_int pa_nil)))) pa_nil)) (blkOk_by (own := [("_law_k", 3)]) (N := ["_law_deck_here", "_law_sort", "_law_path", "_law_k"]) (sc := defScope s_law_far) (by decide +kernel)) (fun _ _ _ _ _ => (pg_name (i := 3) sc_law_far.nd rfl (.inl rfl))) (fun _ _ _ _ _ => pts_nil) (fun _ _ _ _ _ => (tupN (pa_cons (pv 3) (pa_cons (pe_op op_sub (callD D_law_draw (hr.mono (by decide)) (pa_cons (pv 0) (pa_cons pe_int pa_nil))) pe_int) pa_nil)))))
      (pss_one (ps_ret (tupN (pa_cons (pe_callTy call_tuple_ofN (by rfl) T.tuple (by decide +kernel) (pa_cons (pe_revL (pv 2)) pa_nil)) (pa_cons (pe_callTy call_tuple_ofN (by rfl) T.tuple (by decide +kernel) (pa_cons (pe_slice sl_listN (pv 2) po_none (po_some pe_int)) pa_nil)) pa_nil))))))), ?_⟩
    have two : (2 : Nat) ≤ sizeLine := by decide
    refine ⟨_, rfl, rfl, _, rfl, ite2 (fun _ => ?_) (fun _ => ?_)⟩
    · refine ⟨_, rfl, _, rfl, d, l, 488, rfl, by decide, by decide, D, fun x H1 x0 x1 S1 => ⟨_, _, rfl, rfl, ?_⟩⟩
      obtain ⟨xn, rfl⟩ := Int.eq_ofNat_of_zero_le x0
      refine ⟨d, l, 13 + xn, 1, 0, by rw [show ((13 + xn : Nat) : Int) = 13 + (xn : Int) by omega]; rfl, by omega, by decide, by decide, by decide, by decide, S1.deck, fun w pss H2 S2 hw kp ln => ?_⟩
      exact q w pss H2 (S1.trans S2) hw (gd_of kp ln (by omega) (by omega))
    refine ⟨_, rfl, d, l, 400, rfl, by decide, by decide, D, fun x H1 x0 x1 S1 => ⟨_, _, rfl, rfl, ?_⟩⟩
    obtain ⟨xn, rfl⟩ := Int.eq_ofNat_of_zero_le x0
    refine ⟨61 + (xn : Int), rfl, by omega, by omega, fun pD nD => ?_⟩
    rw [show (61 + (xn : Int)).toNat = 61 + xn by omega]
    have ndD := S1.deck.nd nD
    refine lcR (lo := 0) (n := 61 + xn) (fun i H' => Step d l H1 H' ∧ ∃ ws ps, H' pD = some (.lst ws) ∧ AllAt (At2 K H') ws ps ∧ ps.map (·.1) = (List.range i).map (fun k => ((k : Nat) : Int)) ∧ ∀ p ∈ ps, okP p) nD (fun H' e1 e2 => ⟨Step.of S1.deck e1, [], [], e2, .nil, rfl, fun p hp => (List.not_mem_nil hp).elim⟩) (fun i H' hi w => ?_) (fun H6 z => ?_)
    · obtain ⟨S, ws, ps, e, hA, hr, kp⟩ := w
      have lp : ps.length = i := by
        have := congrArg List.length hr
        rwa [List.length_map, List.length_map, List.length_range] at this
      refine ⟨rfl, _, rfl, _, rfl, d, l, 19, rfl, by decide, by decide, S.deck, fun y H7 y0 y1 S7 => ⟨_, _, rfl, rfl, two, fun p7 H8 n8 s8 e8 => ?_⟩⟩
      have e7 := s8 _ _ (S7.at ndD.1 ndD.2 e)
      have S8 := S7.trans (Step.of S7.deck s8)
      have hA8 := hA.map fun _ _ z => At2.step (K := K) z S8 S.deck
      refine ⟨ws, e7, ?_, (S.trans S8).updN ndD.1 ndD.2 nD, ws ++ [.ref p7], ps ++ [((0 : Int) + (i : Int), y - 9)], upd_same, (hA8.map fun _ _ z => At2.upd6 z e7).app (.cons (At2.upd6 ⟨p7, rfl, .inl (.inl e8)⟩ e7) .nil), ?_, ?_⟩
      · rw [hA.length, lp]
        exact small1000 (by omega)
      · rw [List.map_append, hr, List.range_succ, List.map_append]
        show _ ++ [(0 : Int) + (i : Int)] = _ ++ [(i : Int)]
        rw [Int.zero_add]
      · intro p hp
        rcases List.mem_append.mp hp with hp | hp
        · exact kp p hp
        · rw [List.mem_singleton.mp hp]
          exact ⟨by show ((0 : Int) + (i : Int)).natAbs < 10 ^ 30; omega, by show (y - 9).natAbs < 10 ^ 30; omega⟩
    obtain ⟨S, ws, ps, e, hA, hr, kp⟩ := z
    have lp : ps.length = 61 + xn := by
      have := congrArg List.length hr
      rwa [List.length_map, List.length_map, List.length_range] at this
    have nd : ps.Nodup := by
      have h : (ps.map (·.1)).Nodup := by
        rw [hr]
        exact List.pairwise_map.mpr (List.nodup_range.imp fun h z => h (by omega))
      exact List.Pairwise.of_map (·.1) (fun a b h z => h (by rw [z])) h
    refine ⟨_, rfl, pD, ws, rfl, .inl (.inl e), fun pR H7 n7 s7 e7 => ?_⟩
    refine ⟨pR, _, rfl, .inl (.inl e7), fun pT H8 n8 s8 e8 => ?_⟩
    have e' := (s7.trans s8) _ _ e
    refine ⟨_, rfl, _, rfl, pD, ws, rfl, .inl (.inl e'), fun pQ H9 n9 s9 e9 => ?_⟩
    refine ⟨pQ, _, rfl, .inl (.inl e9), fun pU HA nA sA eA => ⟨two, fun pV HB nB sB eB => ?_⟩⟩
    have s6B := s7.trans (s8.trans (s9.trans (sA.trans sB)))
    have hB := hA.map fun _ _ z => At2.same (K := K) z s6B
    have cut2 : cutV ws none (some 2) = ws.take 2 := by
      unfold cutV
      rw [HT.sIx_none, show HT.sIx ws.length ws.length (some 2) = min 2 ws.length from HT.sIx_nat _ _ 2]
      rw [List.drop_zero, hA.length, lp]
      congr 1
      omega
    rw [cut2] at eA
    have okp : okD [ps.reverse, ps.take 2] := by
      refine ⟨fun qs hq p hp => ?_, ?_, (show 2 ≤ 600 by decide)⟩
      · simp only [List.mem_cons, List.not_mem_nil, or_false] at hq
        rcases hq with rfl | rfl
        · exact kp p (List.mem_reverse.mp hp)
        · exact kp p (List.mem_of_mem_take hp)
      · show ps.reverse.length + ((ps.take 2).length + 0) ≤ 1000
        rw [List.length_reverse, List.length_take]
        omega
    refine q _ [ps.reverse, ps.take 2] HB ((S1.trans S).trans (Step.of S.deck s6B)) ⟨pV, _, rfl, .inl (.inl eB), .cons ⟨pT, _, rfl, .inl (.inl ((s9.trans (sA.trans sB)) _ _ e8)), rev6 hB⟩ (.cons ⟨pU, _, rfl, .inl (.inl (sB _ _ eA)), take6 2 hB⟩ .nil)⟩ ⟨okp, fun qs hq => ?_⟩
    simp only [List.mem_cons, List.not_mem_nil, or_false] at hq
    rcases hq with rfl | rfl
    · exact ⟨fun z => by have := congrArg List.length z; rw [List.length_reverse, lp] at this; simp at this, List.pairwise_reverse.mpr (nd.imp fun h z => h z.symm)⟩
    · exact ⟨fun z => by have := congrArg List.length z; rw [List.length_take, lp] at this; simp at this, List.Nodup.sublist (List.take_sublist 2 ps) nd⟩

end
end Cl

set_option maxHeartbeats 0
namespace Cl
open PySem PySem.Spec PyProof.Rows L2
open GxR (TabB TabG)
open TL

section
variable {P : Program} {w : World} {K : PySem.W.Frag} {mg : Str → Option Value} {base : Heap}


/-- the error class that is caught -/
structure XE5 (K : PySem.W.Frag) (mg : Str → Option Value) (CT CE : Addr) : Prop where
  g : mg "DrawError" = some (.ref CE)
  m : PySem.W.exmOne K (.ref CT) (.ref CE) = some true
/-- a text that may be read as paths -/
structure okT (t : Str) : Prop where
  l : t.length ≤ 100000
  a : ∀ c ∈ tl t, c < 0x110000
  p : ∀ r ∈ spl [10] 0 [] (tl t), (spl [44, 32] 0 [] r).length < 2048
def spRef6 (K : PySem.W.Frag) (Pf : Addr) : Sp := fun vs H Q _ => ∃ t, vs = [.str t] ∧ TabG H Pf ∧ okT t ∧ pathsP (tl t) = none ∧ ∀ H', Same H H' → Q (.bl true) H'

theorem ok_law_refused {f : Addr} {fd : FuncData} (F : Fun K "_law_refused" "_law_refused" s_law_refused f fd) (T : Bt mg) {CT CE Pf : Addr} (hE : XE5 K mg CT CE) (Dread_paths : DefX P w K mg base 7 "read_paths" ["text"] (spReadP K CT Pf)) :
    FnG P w K mg base CX0 8 f fd ["_law_text"] (spRef6 K Pf) := by
  refine okG (k := 7) F sc_law_refused (fun vs H Q E h => ?_) (fun cdv A outer s H vs Q E hr h => ?_)
  · obtain ⟨t, rfl, _⟩ := h
    rfl
  · obtain ⟨t, rfl, tf, ht, no, q⟩ := h
    refine ⟨_, (pss_cons (ps_set (i := 1) sc_law_refused.nd rfl (.inl rfl) pe_bl)
      (pss_cons (ps_try_only rfl rfl ⟨rfl, by decide, .inl hE.g⟩ takes0 (fun W pn xe tk _ => (pss_one (ps_expr (callDX Dread_paths tk (hr.mono (by decide)) (pa_cons (pv 0) pa_nil))))) (fun a oe cls d pn _ _ => (pss_one (ps_set (i := 1) sc_law_refused.nd rfl (.inl rfl) pe_bl))))
      (pss_one (ps_ret (pv 1))))), ?_⟩
    refine ⟨_, rfl, .str t, _, rfl, .str t, tf, fun z hz => by cases hz; exact ⟨ht.l, ht.a, ht.p⟩, fun ls w H1 hp => ?_, fun H1 hp s1 => ?_⟩
    · have hp : pathsP (tl t) = some ls := hp
      rw [no] at hp
      cases hp
    · exact ⟨true, hE.m, fun _ a na => ⟨_, rfl, q H1 s1⟩, fun z => by cases z⟩

end
end Cl

set_option maxHeartbeats 0
namespace Cl
open PySem PySem.Spec PyProof.Rows L2
open GxR (TabB TabG)
open TL

section
structure Fi (d : PyData) (dep blk : Nat) : Prop where
  lv : d.leavesShort 200 = true
  sh : d.showable = true
  nd : d.hasDict = false
  dp : d.depth ≤ dep
  bk : d.bulk ≤ blk
theorem Fi.int {i : Int} (h : okI i) : Fi (.int i) 0 0 := by
  have a := h.len
  have b := h.sh
  constructor
  · simp [PyData.leavesShort, a]
  · simp [PyData.showable, b]
  · rfl
  · exact Nat.le_refl _
  · exact Nat.le_refl _
theorem Fi.all {dep blk : Nat} : ∀ {xs : List PyData}, (∀ x ∈ xs, Fi x dep blk) → PyData.leavesShortAll 200 xs = true ∧ PyData.showableAll xs = true ∧ PyData.hasDictAll xs = false ∧ PyData.depthAll xs ≤ dep ∧ PyData.bulkAll xs ≤ xs.length * (blk + 1)
  | [], _ => ⟨rfl, rfl, rfl, Nat.zero_le _, Nat.zero_le _⟩
  | x :: xs, h => by
    obtain ⟨a, b, c, d, e⟩ := h x (List.mem_cons_self ..)
    obtain ⟨a2, b2, c2, d2, e2⟩ := Fi.all fun y hy => h y (List.mem_cons_of_mem _ hy)
    refine ⟨?_, ?_, ?_, ?_, ?_⟩
    · show (PyData.leavesShort 200 x && PyData.leavesShortAll 200 xs) = true
      rw [a, a2]; rfl
    · show (PyData.showable x && PyData.showableAll xs) = true
      rw [b, b2]; rfl
    · show (PyData.hasDict x || PyData.hasDictAll xs) = false
      rw [c, c2]; rfl
    · show max (PyData.depth x) (PyData.depthAll xs) ≤ dep
      omega
    · show PyData.bulk x + 1 + PyData.bulkAll xs ≤ (xs.length + 1) * (blk + 1)
      rw [Nat.add_mul]
      omega
theorem Fi.tup {dep blk : Nat} {xs : List PyData} (h : ∀ x ∈ xs, Fi x dep blk) : Fi (.tuple xs) (dep + 1) (xs.length * (blk + 1)) := by
  obtain ⟨a, b, c, d, e⟩ := Fi.all h
  exact ⟨a, b, c, by show PyData.depthAll xs + 1 ≤ _; omega, e⟩
theorem Fi.up {d : PyData} {a b a2 b2 : Nat} (h : Fi d a b) (h1 : a ≤ a2) (h2 : b ≤ b2) : Fi d a2 b2 := ⟨h.lv, h.sh, h.nd, Nat.le_trans h.dp h1, Nat.le_trans h.bk h2⟩
theorem Fi.fine {d : PyData} {a b : Nat} (h : Fi d a b) (h1 : a ≤ 60) (h2 : b ≤ 80000) : Fine d := ⟨h.lv, h.sh, h.nd, Nat.le_trans h.dp h1, Nat.le_trans h.bk h2⟩

/-! ### what is written is read -/
theorem ptL_free {p : Pt} {s : Nat} (h : s < 45 ∨ 57 < s) (h2 : s ≠ 32) : s ∉ ptL p := fun z => by
  have z : s ∈ iL p.1 ++ ([32] ++ iL p.2) := z
  simp only [List.mem_append, List.mem_singleton] at z
  rcases z with z | z | z
  · exact iL_free h z
  · exact h2 z
  · exact iL_free h z
theorem ptL_ne (p : Pt) : ptL p ≠ [] := fun z => by
  have z : iL p.1 ++ ([32] ++ iL p.2) = [] := z
  simp at z
theorem ptL_back {p : Pt} (k : okP p) : ptP (ptL p) = some p := by
  have e : spl [32] 0 [] (ptL p) = [iL p.1, iL p.2] := spl_join (s := 32) (S := []) (by simp) fun q hq => by
    simp only [List.mem_cons, List.not_mem_nil, or_false] at hq
    rcases hq with rfl | rfl <;> exact iL_free (.inl (by decide))
  have n : numsP (ptL p) 2 = some [p.1, p.2] := by
    unfold numsP
    rw [e, if_pos (by rfl)]
    show allSome [numP (iL p.1), numP (iL p.2)] = _
    rw [numP_int k.1, numP_int k.2]
    rfl
  unfold ptP
  rw [n]
  rfl
theorem join_free {S : List Nat} {s : Nat} (hs : s ∉ S) : ∀ {ps : List (List Nat)}, (∀ p ∈ ps, s ∉ p) → s ∉ joinL S ps
  | [], _ => by simp [joinL]
  | [p], h => h p List.mem_cons_self
  | p :: q :: r, h => fun z => by
    have z : s ∈ p ++ (S ++ joinL S (q :: r)) := z
    rcases List.mem_append.mp z with z | z
    · exact h p List.mem_cons_self z
    · rcases List.mem_append.mp z with z | z
      · exact hs z
      · exact join_free hs (fun x hx => h x (List.mem_cons_of_mem _ hx)) z
theorem pthL_free (ps : List Pt) : 10 ∉ pthL ps := join_free (by decide) fun p hp => by
  obtain ⟨x, _, rfl⟩ := List.mem_map.mp hp
  exact ptL_free (.inl (by decide)) (by decide)
theorem pth_spl {ps : List Pt} (ne : ps ≠ []) : spl [44, 32] 0 [] (pthL ps) = ps.map ptL := spl_join (s := 44) (S := [32]) (by simpa using ne) fun p hp => by
  obtain ⟨x, _, rfl⟩ := List.mem_map.mp hp
  exact ptL_free (.inl (by decide)) (by decide)
theorem pts_back {ps : List Pt} (k : ∀ p ∈ ps, okP p) : (ps.map ptL).map ptP = ps.map some := by
  rw [List.map_map]
  exact List.map_congr_left fun p hp => ptL_back (k p hp)
theorem pthL_back {ps : List Pt} (k : ∀ p ∈ ps, okP p) (ne : ps ≠ []) (nd : ps.Nodup) : pathP (pthL ps) = some ps := by
  unfold pathP
  rw [pth_spl ne, pts_back k, allSome_map]
  exact if_pos nd
theorem pthL_ne {ps : List Pt} (ne : ps ≠ []) : pthL ps ≠ [] := fun z => by
  cases ps with
  | nil => exact ne rfl
  | cons p r =>
    have e := pth_spl ne
    rw [z, spl_nil] at e
    exact ptL_ne p (List.cons.inj e).1.symm
theorem rows_spl {pss : List (List Pt)} (ne : pss ≠ []) : spl [10] 0 [] (psL pss) = pss.map pthL := spl_join (s := 10) (S := []) (by simpa using ne) fun p hp => by
  obtain ⟨x, _, rfl⟩ := List.mem_map.mp hp
  exact pthL_free x
theorem rows_back {pss : List (List Pt)} (h : Gd pss) : (pss.map pthL).map pathP = pss.map some := by
  rw [List.map_map]
  exact List.map_congr_left fun ps hp => pthL_back (h.d.pt ps hp) (h.ne ps hp).1 (h.ne ps hp).2
theorem psL_back {pss : List (List Pt)} (h : Gd pss) : pathsP (psL pss) = some pss := by
  cases pss with
  | nil => rfl
  | cons ps r =>
    have ne : (ps :: r) ≠ [] := by simp
    unfold pathsP
    rw [rows_spl ne, if_neg, rows_back h, allSome_map]
    intro z
    exact pthL_ne (h.ne ps List.mem_cons_self).1 (List.cons.inj z).1
theorem snoc_cases {α : Type} (l : List α) (ne : l ≠ []) : ∃ i x, l = i ++ [x] := ⟨l.dropLast, l.getLast ne, (List.dropLast_concat_getLast ne).symm⟩
theorem joinL_snoc (S : List Nat) : ∀ (ps : List (List Nat)) (p q : List Nat), joinL S (p :: (ps ++ [q])) = joinL S (p :: ps) ++ (S ++ q)
  | [], p, q => by
    show p ++ (S ++ q) = p ++ (S ++ q)
    rfl
  | r :: ps, p, q => by
    show p ++ (S ++ joinL S (r :: (ps ++ [q]))) = p ++ (S ++ joinL S (r :: ps)) ++ (S ++ q)
    rw [joinL_snoc S ps r q]
    simp
theorem joinL_last (S r : List Nat) : ∀ (ps : List (List Nat)) (q : List Nat), joinL S (ps ++ [q]) ++ r = joinL S (ps ++ [q ++ r])
  | [], q => rfl
  | [p], q => by
    show (p ++ (S ++ q)) ++ r = p ++ (S ++ (q ++ r))
    simp
  | p :: p2 :: ps, q => by
    show (p ++ (S ++ joinL S (p2 :: ps ++ [q]))) ++ r = p ++ (S ++ joinL S (p2 :: ps ++ [q ++ r]))
    rw [← joinL_last S r (p2 :: ps) q]
    simp
theorem spl_snoc {s : Nat} {S : List Nat} {q : List Nat} (hq : ∀ i, i < q.length → pre (s :: S) (q.drop i) = false) : ∀ {ps : List (List Nat)}, (∀ p ∈ ps, s ∉ p) → spl (s :: S) 0 [] (joinL (s :: S) (ps ++ [q])) = ps ++ [q]
  | [], _ => by
    show spl (s :: S) 0 [] q = [q]
    exact spl_last hq
  | [p], h => by
    show spl (s :: S) 0 [] (p ++ (s :: S ++ q)) = [p, q]
    rw [spl_part1 (h p List.mem_cons_self), spl_last hq]
    rfl
  | p :: p2 :: ps, h => by
    show spl (s :: S) 0 [] (p ++ (s :: S ++ joinL (s :: S) (p2 :: ps ++ [q]))) = _
    rw [spl_part1 (h p List.mem_cons_self), spl_snoc hq fun x hx => h x (List.mem_cons_of_mem _ hx)]
    rfl
theorem comma_none (q : List Nat) (h : 44 ∉ q) : ∀ i, i < (q ++ [44]).length → pre [44, 32] ((q ++ [44]).drop i) = false := fun i hi => by
  by_cases z : i < q.length
  · exact free_of h i z
  · have : i = q.length := by rw [List.length_append, List.length_singleton] at hi; omega
    rw [this, List.drop_left]
    rfl
theorem numP_comma (l : List Nat) : numP (l ++ [44]) = none := by
  have f : ∀ m : List Nat, figB (m ++ [44]) = false := fun m => by
    unfold figB
    rw [List.all_append]
    simp
  unfold numP
  split
  · rw [if_neg]
    rintro ⟨h, _⟩
    cases l with
    | nil => exact absurd h (by decide)
    | cons c r =>
      have h : figB (r ++ [44]) = true := h
      rw [f] at h
      cases h
  · rw [f]
    rfl
theorem ptP_comma {p : Pt} : ptP (ptL p ++ [44]) = none := by
  have e0 : ptL p ++ [44] = joinL [32] [iL p.1, iL p.2 ++ [44]] := by
    show (iL p.1 ++ ([32] ++ iL p.2)) ++ [44] = iL p.1 ++ ([32] ++ (iL p.2 ++ [44]))
    simp
  have e : spl [32] 0 [] (ptL p ++ [44]) = [iL p.1, iL p.2 ++ [44]] := by
    rw [e0]
    refine spl_join (s := 32) (S := []) (by simp) fun q hq => ?_
    simp only [List.mem_cons, List.not_mem_nil, or_false] at hq
    rcases hq with rfl | rfl
    · exact iL_free (.inl (by decide))
    · intro z
      rcases List.mem_append.mp z with z | z
      · exact iL_free (.inl (by decide)) z
      · exact absurd z (by decide)
  unfold ptP numsP
  rw [e, if_pos (by rfl)]
  show (allSome [numP (iL p.1), numP (iL p.2 ++ [44])]).map pt2 = none
  rw [allSome_mem (by rw [numP_comma]; exact List.mem_cons_of_mem _ List.mem_cons_self)]
  rfl
theorem row_comma {ps : List Pt} (ne : ps ≠ []) : spl [44, 32] 0 [] (pthL ps ++ [44]) = ps.dropLast.map ptL ++ [ptL (ps.getLast ne) ++ [44]] ∧ pathP (pthL ps ++ [44]) = none := by
  obtain ⟨i, x, rfl⟩ := snoc_cases ps ne
  have e0 : pthL (i ++ [x]) ++ [44] = joinL [44, 32] (i.map ptL ++ [ptL x ++ [44]]) := by
    unfold pthL
    rw [List.map_append]
    exact joinL_last _ _ _ _
  have e : spl [44, 32] 0 [] (pthL (i ++ [x]) ++ [44]) = i.map ptL ++ [ptL x ++ [44]] := by
    rw [e0]
    refine spl_snoc (comma_none _ (ptL_free (.inl (by decide)) (by decide))) fun p hp => ?_
    obtain ⟨y, _, rfl⟩ := List.mem_map.mp hp
    exact ptL_free (.inl (by decide)) (by decide)
  refine ⟨by rw [e]; simp, ?_⟩
  unfold pathP
  rw [e]
  rw [allSome_mem]
  rw [List.map_append]
  exact List.mem_append_right _ (by rw [List.map_singleton, ptP_comma]; exact List.mem_cons_self)
/-- a text with something behind its last row -/
theorem psL_more {pss : List (List Pt)} (ne : pss ≠ []) (r : List Nat) (hr : 10 ∉ r) : spl [10] 0 [] (psL pss ++ r) = pss.dropLast.map pthL ++ [pthL (pss.getLast ne) ++ r] := by
  obtain ⟨i, x, rfl⟩ := snoc_cases pss ne
  have e0 : psL (i ++ [x]) ++ r = joinL [10] (i.map pthL ++ [pthL x ++ r]) := by
    unfold psL
    rw [List.map_append]
    exact joinL_last _ _ _ _
  rw [e0]
  have : spl [10] 0 [] (joinL [10] (i.map pthL ++ [pthL x ++ r])) = i.map pthL ++ [pthL x ++ r] := spl_join (s := 10) (S := []) (by simp) fun p hp => by
    rcases List.mem_append.mp hp with hp | hp
    · obtain ⟨y, _, rfl⟩ := List.mem_map.mp hp
      exact pthL_free y
    · rw [List.mem_singleton.mp hp]
      intro z
      rcases List.mem_append.mp z with z | z
      · exact pthL_free x z
      · exact hr z
  rw [this]
  simp
theorem psL_line {pss : List (List Pt)} : spl [10] 0 [] (psL pss ++ [10]) = (if pss = [] then [[]] else pss.map pthL) ++ [[]] := by
  cases pss with
  | nil => rfl
  | cons ps r =>
    rw [if_neg (by simp)]
    have e0 : psL (ps :: r) ++ [10] = joinL [10] ((ps :: r).map pthL ++ [[]]) := (joinL_snoc [10] (r.map pthL) (pthL ps) []).symm
    rw [e0]
    exact spl_join (s := 10) (S := []) (by simp) fun p hp => by
      rcases List.mem_append.mp hp with hp | hp
      · obtain ⟨y, _, rfl⟩ := List.mem_map.mp hp
        exact pthL_free y
      · rw [List.mem_singleton.mp hp]
        simp
theorem psL_end {pss : List (List Pt)} : pathsP (psL pss ++ [10]) = none := by
  unfold pathsP
  rw [psL_line, if_neg]
  · rw [allSome_mem]
    rw [List.map_append]
    exact List.mem_append_right _ (by decide)
  · intro z
    have := congrArg List.length z
    rw [List.length_append] at this
    split at this
    · exact absurd this (by decide)
    · rename_i h
      rw [List.length_map] at this
      have : pss.length = 0 := by simpa using this
      exact h (List.length_eq_zero_iff.mp this)
theorem psL_comma {pss : List (List Pt)} (h : Gd pss) : pathsP (psL pss ++ [44]) = none := by
  by_cases ne : pss = []
  · subst ne
    decide +kernel
  unfold pathsP
  rw [psL_more ne [44] (by decide), if_neg]
  · rw [allSome_mem]
    rw [List.map_append]
    refine List.mem_append_right _ ?_
    have := (row_comma (h.ne _ (List.getLast_mem ne)).1).2
    rw [List.map_singleton, this]
    exact List.mem_cons_self
  · intro z
    have : [] ∈ pss.dropLast.map pthL ++ [pthL (pss.getLast ne) ++ [44]] := by rw [z]; exact List.mem_cons_self
    rcases List.mem_append.mp this with this | this
    · obtain ⟨y, hy, e⟩ := List.mem_map.mp this
      exact pthL_ne (h.ne y (List.dropLast_subset _ hy)).1 e
    · have := List.mem_singleton.mp this
      have := congrArg List.length this
      rw [List.length_append] at this
      simp at this

end
end Cl

set_option maxHeartbeats 0
namespace Cl
open PySem PySem.Spec PyProof.Rows L2
open GxR (TabB TabG)
open TL

section

theorem iL_low {i : Int} : ∀ c ∈ iL i, c < 128 := fun c hc => by
  unfold iL at hc
  have d : ∀ n, ∀ c ∈ numL n, c < 128 := fun n c hc => by
    have := numL_digits n c hc
    omega
  split at hc
  · rcases List.mem_cons.mp hc with rfl | hc
    · decide
    · exact d _ c hc
  · exact d _ c hc
theorem join_low {S : List Nat} (hs : ∀ c ∈ S, c < 128) : ∀ {ps : List (List Nat)}, (∀ p ∈ ps, ∀ c ∈ p, c < 128) → ∀ c ∈ joinL S ps, c < 128
  | [], _ => fun c hc => by cases hc
  | [p], h => h p List.mem_cons_self
  | p :: q :: r, h => fun c z => by
    have z : c ∈ p ++ (S ++ joinL S (q :: r)) := z
    rcases List.mem_append.mp z with z | z
    · exact h p List.mem_cons_self c z
    · rcases List.mem_append.mp z with z | z
      · exact hs c z
      · exact join_low hs (fun x hx => h x (List.mem_cons_of_mem _ hx)) c z
theorem ps_low (pss : List (List Pt)) : ∀ c ∈ psL pss, c < 128 := join_low (by decide) fun p hp => by
  obtain ⟨ps, _, rfl⟩ := List.mem_map.mp hp
  exact join_low (by decide) fun q hq => by
    obtain ⟨x, _, rfl⟩ := List.mem_map.mp hq
    exact join_low (by decide) fun y hy => by
      simp only [List.mem_cons, List.not_mem_nil, or_false] at hy
      rcases hy with rfl | rfl <;> exact iL_low
theorem pth_parts {pss : List (List Pt)} (h : Gd pss) {ps : List Pt} (m : ps ∈ pss) : (spl [44, 32] 0 [] (pthL ps)).length < 2048 := by
  rw [pth_spl (h.ne ps m).1, List.length_map]
  have := nC_le m
  have := h.d.c
  omega
theorem okT_ps {pss : List (List Pt)} (h : Gd pss) : okT (psS pss) := by
  refine ⟨?_, fun c hc => Nat.lt_of_lt_of_le (ps_low pss c hc) (by decide), fun r hr => ?_⟩
  · have := psL_len h.d
    show (toS (psL pss)).length ≤ 100000
    rw [len_tl, tl_toS]
    omega
  · have hr : r ∈ spl [10] 0 [] (psL pss) := hr
    by_cases ne : pss = []
    · subst ne
      have hr : r ∈ [[]] := hr
      rw [List.mem_singleton.mp hr]
      decide
    · rw [rows_spl ne] at hr
      obtain ⟨ps, m, rfl⟩ := List.mem_map.mp hr
      exact pth_parts h m
theorem okT_end {pss : List (List Pt)} (h : Gd pss) : okT (psS pss ++ (("\n" : String) : Str)) := by
  have et : tl (psS pss ++ (("\n" : String) : Str)) = psL pss ++ [10] := by rw [tl_append]; rfl
  refine ⟨?_, fun c hc => ?_, fun r hr => ?_⟩
  · have := psL_len h.d
    rw [len_tl, et, List.length_append, List.length_singleton]
    omega
  · rw [et] at hc
    rcases List.mem_append.mp hc with hc | hc
    · exact Nat.lt_of_lt_of_le (ps_low pss c hc) (by decide)
    · rw [List.mem_singleton.mp hc]
      decide
  · rw [et, psL_line] at hr
    rcases List.mem_append.mp hr with hr | hr
    · split at hr
      · rw [List.mem_singleton.mp hr]
        decide
      · obtain ⟨ps, m, rfl⟩ := List.mem_map.mp hr
        exact pth_parts h m
    · rw [List.mem_singleton.mp hr]
      decide
theorem okT_comma {pss : List (List Pt)} (h : Gd pss) : okT (psS pss ++ (("," : String) : Str)) := by
  have et : tl (psS pss ++ (("," : String) : Str)) = psL pss ++ [44] := by rw [tl_append]; rfl
  refine ⟨?_, fun c hc => ?_, fun r hr => ?_⟩
  · have := psL_len h.d
    rw [len_tl, et, List.length_append, List.length_singleton]
    omega
  · rw [et] at hc
    rcases List.mem_append.mp hc with hc | hc
    · exact Nat.lt_of_lt_of_le (ps_low pss c hc) (by decide)
    · rw [List.mem_singleton.mp hc]
      decide
  · rw [et] at hr
    by_cases ne : pss = []
    · subst ne
      have e : spl [10] 0 [] (psL [] ++ [44]) = [[44]] := by decide +kernel
      rw [e] at hr
      rw [List.mem_singleton.mp hr]
      decide +kernel
    · rw [psL_more ne [44] (by decide)] at hr
      rcases List.mem_append.mp hr with hr | hr
      · obtain ⟨ps, m, rfl⟩ := List.mem_map.mp hr
        exact pth_parts h (List.dropLast_subset _ m)
      · rw [List.mem_singleton.mp hr]
        have m := List.getLast_mem ne
        rw [(row_comma (h.ne _ m).1).1, List.length_append, List.length_map, List.length_dropLast, List.length_singleton]
        have := nC_le m
        have := h.d.c
        omega
/-! ### shown -/
def dPh (ps : List Pt) : PyData := .tuple (ps.map pd)
def dPs (pss : List (List Pt)) : PyData := .tuple (pss.map dPh)
theorem AtP.dp6 {K : PySem.W.Frag} {H : Hp} {v : V} {ps : List Pt} (h : AtP K H v ps) : Dp K H v (dPh ps) := by
  obtain ⟨a, vs, rfl, h1, h2⟩ := h
  exact .tup h1 (pts_dp6 h2)
theorem pths_dp6 {K : PySem.W.Frag} {H : Hp} : ∀ {ws : List V} {pss : List (List Pt)}, AllAt (AtP K H) ws pss → DpAll K H ws (pss.map dPh)
  | _, _, .nil => .nil
  | _, _, .cons h t => .cons (AtP.dp6 h) (pths_dp6 t)
theorem AtPs.dp6 {K : PySem.W.Frag} {H : Hp} {v : V} {pss : List (List Pt)} (h : AtPs K H v pss) : Dp K H v (dPs pss) := by
  obtain ⟨a, vs, rfl, h1, h2⟩ := h
  exact .tup h1 (pths_dp6 h2)
theorem okN.okI {i : Int} (h : okN i) : Cl.okI i := Nat.lt_of_lt_of_le h (by decide)
theorem fi_pt6 {p : Pt} (k : okP p) : Fi (pd p) 1 2 := (Fi.tup (dep := 0) (blk := 0) (xs := [.int p.1, .int p.2]) fun x hx => by
  simp only [List.mem_cons, List.not_mem_nil, or_false] at hx
  rcases hx with rfl | rfl
  · exact .int k.1.okI
  · exact .int k.2.okI)
theorem bulk_ps : ∀ {pss : List (List Pt)}, (∀ ps ∈ pss, ∀ p ∈ ps, okP p) → PyData.bulkAll (pss.map dPh) ≤ 3 * nC pss + pss.length
  | [], _ => Nat.zero_le _
  | ps :: r, h => by
    have a := (Fi.tup (dep := 1) (blk := 2) (xs := ps.map pd) fun y hy => by
      obtain ⟨p, hp, rfl⟩ := List.mem_map.mp hy
      exact fi_pt6 (h ps List.mem_cons_self p hp)).bk
    have b := bulk_ps fun q hq => h q (List.mem_cons_of_mem _ hq)
    rw [List.length_map] at a
    have a : (dPh ps).bulk ≤ ps.length * 3 := a
    show (dPh ps).bulk + 1 + PyData.bulkAll (r.map dPh) ≤ 3 * (ps.length + nC r) + (r.length + 1)
    omega
theorem fine_Ps {pss : List (List Pt)} (h : okD pss) : Fine (dPs pss) := by
  have each : ∀ x ∈ pss.map dPh, Fi x 2 3000 := fun x hx => by
    obtain ⟨ps, hp, rfl⟩ := List.mem_map.mp hx
    refine (Fi.tup (dep := 1) (blk := 2) (xs := ps.map pd) fun y hy => ?_).up (by decide) (by have := nC_le hp; have := h.c; rw [List.length_map]; omega)
    obtain ⟨p, hp2, rfl⟩ := List.mem_map.mp hy
    exact fi_pt6 (h.pt ps hp p hp2)
  obtain ⟨a, b, c, d, _⟩ := Fi.all each
  have e := bulk_ps h.pt
  have f := h.c
  have g := h.n
  exact ⟨a, b, c, by show PyData.depthAll _ + 1 ≤ 60; omega, by show PyData.bulkAll (pss.map dPh) ≤ 80000; omega⟩
theorem eqvAll_pts6 : ∀ (ls ms : List Pt), PyData.eqvAll (ls.map pd) (ms.map pd) = decide (ls = ms)
  | [], [] => rfl
  | [], _ :: _ => rfl
  | _ :: _, [] => rfl
  | r :: ls, q :: ms => by
    show (PyData.eqv (pd r) (pd q) && PyData.eqvAll (ls.map pd) (ms.map pd)) = _
    rw [eqv_pd9, eqvAll_pts6, Bool.eq_iff_iff]
    simp
theorem eqvAll_pths6 : ∀ (ls ms : List (List Pt)), PyData.eqvAll (ls.map dPh) (ms.map dPh) = decide (ls = ms)
  | [], [] => rfl
  | [], _ :: _ => rfl
  | _ :: _, [] => rfl
  | r :: ls, q :: ms => by
    show (PyData.eqvAll (r.map pd) (q.map pd) && PyData.eqvAll (ls.map dPh) (ms.map dPh)) = _
    rw [eqvAll_pts6, eqvAll_pths6, Bool.eq_iff_iff]
    simp
theorem eqv_Ps (a b : List (List Pt)) : PyData.eqv (dPs a) (dPs b) = decide (a = b) := eqvAll_pths6 a b
theorem canPs6 : ∀ pss : List (List Pt), PyData.canLayAll0 (pss.map dPh) = true
  | [] => rfl
  | ps :: r => by
    have a : PyData.canLay0 (dPh ps) = true := canPts6 ps
    show (PyData.canLay0 (dPh ps) && PyData.canLayAll0 (r.map dPh)) = true
    rw [a, canPs6 r]
    rfl
theorem depPs6 : ∀ pss : List (List Pt), PyData.depthAll (pss.map dPh) ≤ 2
  | [] => by decide
  | ps :: r => by
    have a : PyData.depth (dPh ps) ≤ 2 := by
      have := depPts6 ps
      show PyData.depthAll (ps.map pd) + 1 ≤ 2
      omega
    have ih := depPs6 r
    simp only [List.map_cons, PyData.depthAll]
    omega
theorem shapedPs (pss : List (List Pt)) : SeqAt.shaped (dPs pss) = true := by
  have h1 := canPs6 pss
  have h2 := depPs6 pss
  simp [dPs, SeqAt.shaped, PyData.canLay0, PyData.depth, h1]
  omega
theorem psS_inj {a b : List (List Pt)} (ha : Gd a) (hb : Gd b) (e : psS a = psS b) : a = b := by
  have e2 : psL a = psL b := congrArg tl e
  have x := psL_back ha
  rw [e2, psL_back hb] at x
  exact (Option.some.inj x).symm
def spReadPC (K : PySem.W.Frag) (Pf : Addr) : Sp := fun vs H Q _ => ∃ t pss, vs = [.str t] ∧ TabG H Pf ∧ okT t ∧ pathsP (tl t) = some pss ∧ ∀ w H', Same H H' → AtPs K H' w pss → Q w H'
theorem read_calm6 {P : Program} {w : World} {K : PySem.W.Frag} {mg : Str → Option Value} {base : Heap} {CT Pf : Addr} (D : DefX P w K mg base 7 "read_paths" ["text"] (spReadP K CT Pf)) : Def P w K mg base 7 "read_paths" ["text"] (spReadPC K Pf) :=
  DefX.calm D fun vs H Q E ⟨t, ls, e, tf, ht, hp, q⟩ => ⟨.str t, _, e, .str t, tf, fun z hz => by cases hz; exact ⟨ht.l, ht.a, ht.p⟩, fun ls' w H1 hp' s1 a => by
    have hp' : pathsP (tl t) = some ls' := hp'
    rw [hp] at hp'
    cases hp'
    exact q w H1 s1 a, fun H1 hp' _ => by
    have hp' : pathsP (tl t) = none := hp'
    rw [hp] at hp'
    cases hp'⟩
def Ent6 (K : PySem.W.Frag) (H : Hp) (v : V) (e : List (List Pt)) : Prop := ∃ p u, v = .ref p ∧ SqT K H p [u, .str (psS e)] ∧ AtPs K H u e
def spLaw6 (K : PySem.W.Frag) (Pf : Addr) : Sp := fun vs H Q _ => ∃ (a : Addr) (ns : List Int), vs = [.ref a] ∧ SqL K H a (ns.map V.int) ∧ ns.length ≤ 63 ∧ TabG H Pf ∧ ∀ H', Q (.bl true) H'
theorem AtPs.upd6 {K : PySem.W.Frag} {L : Addr} {H : Hp} {ys : List V} {o : HO} {v : V} {pss : List (List Pt)} (h : AtPs K H v pss) (e : H L = some (.lst ys)) : AtPs K (L2.upd H L o) v pss := by
  obtain ⟨a, vs, rfl, h1, h2⟩ := h
  exact ⟨a, vs, rfl, updT e h1, h2.map fun _ _ z => AtP.upd z e⟩
theorem Ent6.step {K : PySem.W.Frag} {d l : Addr} {H H' : Hp} {v : V} {e : List (List Pt)} (h : Ent6 K H v e) (S : Step d l H H') (D : Deck H d l) : Ent6 K H' v e := by
  obtain ⟨p, u, rfl, h1, h2⟩ := h
  exact ⟨p, u, rfl, stT S D h1, h2.step6 S D⟩
theorem Ent6.same {K : PySem.W.Frag} {H H' : Hp} {v : V} {e : List (List Pt)} (h : Ent6 K H v e) (s : Same H H') : Ent6 K H' v e := by
  obtain ⟨p, u, rfl, h1, h2⟩ := h
  exact ⟨p, u, rfl, seT s h1, h2.same6 s⟩
theorem Ent6.upd {K : PySem.W.Frag} {L : Addr} {H : Hp} {ys : List V} {o : HO} {v : V} {e : List (List Pt)} (h : Ent6 K H v e) (eL : H L = some (.lst ys)) : Ent6 K (L2.upd H L o) v e := by
  obtain ⟨p, u, rfl, h1, h2⟩ := h
  exact ⟨p, u, rfl, updT eL h1, h2.upd6 eL⟩
theorem gd_nil : Gd [] := ⟨⟨fun _ h => (List.not_mem_nil h).elim, by decide, by decide⟩, fun _ h => (List.not_mem_nil h).elim⟩

theorem tabU {L P : Addr} {H : Hp} {ys : List V} {o : HO} (eL : H L = some (.lst ys)) (h : TabG H P) : TabG (upd H L o) P := by
  obtain ⟨ps, e, t⟩ := h
  exact ⟨ps, by rw [upd_ne fun z => by rw [z, eL] at e; cases e]; exact e, t⟩

theorem stepTab {d l : Addr} {H H' : Hp} {Pt : Addr} (D : Deck H d l) (S : Step d l H H') (h : TabG H Pt) : TabG H' Pt := by
  obtain ⟨ns, s, c, h1, h2, _⟩ := D.ex
  obtain ⟨ps, e, t⟩ := h
  exact (S.at (ne_of e h1 (by intro z; cases z)) (ne_of e h2 (by intro z; cases z)) e) t |>.elim fun ps' q => ⟨ps', q.1, q.2⟩

end
end Cl

set_option maxHeartbeats 0
namespace Cl
open PySem PySem.Spec PyProof.Rows L2
open GxR (TabB TabG)
open TL

section
variable {P : Program} {w : World} {K : PySem.W.Frag} {mg : Str → Option Value} {base : Heap}

theorem oklaw {f Pf : Addr} {fd : FuncData} (F : Fun K "law" "law" slaw f fd) (T : Bt mg) (D_law_deck : Def P w K mg base 1 "_law_deck" ["_law_script"] (spDeck K)) (D_law_draw : Def P w K mg base 1 "_law_draw" ["_law_deck_here", "_law_most"] spDraw) (D_law_paths : Def P w K mg base 4 "_law_paths" ["_law_deck_here", "_law_many", "_law_long", "_law_way"] (spPaths6 K)) (D_law_far : Def P w K mg base 5 "_law_far" ["_law_deck_here", "_law_sort"] (spFar6 K)) (D_law_paths_text : Def P w K mg base 1 "_law_paths_text" ["_law_paths_here"] (spShowP K)) (Dshow_paths : Def P w K mg base 2 "show_paths" ["paths"] (spShowP K)) (Dread_paths : Def P w K mg base 7 "read_paths" ["text"] (spReadPC K Pf)) (D_law_refused : Def P w K mg base 8 "_law_refused" ["_law_text"] (spRef6 K Pf)) :
    FnG P w K mg base CX0 9 f fd ["_law_script"] (spLaw6 K Pf) := by
  refine okG (k := 8) F sclaw (fun vs H Q E h => ?_) (fun cdv A outer s H vs Q E hr h => ?_)
  · obtain ⟨a, ns, rfl, _⟩ := h
    rfl
  · obtain ⟨as, ns, rfl, hS, hlen, tf, q⟩ := h
    refine ⟨_, (pss_cons (ps_set (i := 1) sclaw.nd rfl (.inl rfl) (callD D_law_deck (hr.mono (by decide)) (pa_cons (pv 0) pa_nil)))
      (pss_cons (ps_set (i := 2) sclaw.nd rfl (.inl rfl) (lstN pa_nil))
      (pss_cons (ps_for PassesOwn.never rfl (pi_range1 (by rfl) T.range (pa_cons pe_int pa_nil)) (pg_name (i := 3) sclaw.nd rfl (.inl rfl)) (pss_cons (ps_set (i := 4) sclaw.nd rfl (.inl rfl) (pe_cmpR op_eq (callD D_law_draw (hr.mono (by decide)) (pa_cons (pv 1) (pa_cons pe_int pa_nil))) pe_int (nomark _)))
      (pss_cons (ps_set (i := 5) sclaw.nd rfl (.inl rfl) (callD D_law_draw (hr.mono (by decide)) (pa_cons (pv 1) (pa_cons pe_int pa_nil))))
      (cutS (ps_if (pt_val (pv 4)) (pss_one (ps_set (i := 5) sclaw.nd rfl (.inl rfl) (pe_op op_mod (pv 5) pe_int))) pss_nil)
      (pss_cons (ps_set (i := 6) sclaw.nd rfl (.inl rfl) (callD D_law_draw (hr.mono (by decide)) (pa_cons (pv 1) (pa_cons pe_int pa_nil))))
      (pss_cons (ps_set (i := 7) sclaw.nd rfl (.inl rfl) (pe_ix ix_list (lstN (pa_cons (pe_op op_mod (pv 6) pe_int) (pa_cons pe_int pa_nil))) (pe_callTy call_int1 (by rfl) T.int (by decide +kernel) (pa_cons (pv 4) pa_nil)) (fun _ _ => rfl)))
      (pss_cons (ps_set (i := 8) sclaw.nd rfl (.inr rfl) (callD D_law_paths (hr.mono (by decide)) (pa_cons (pv 1) (pa_cons (pv 7) (pa_cons (pe_ix ix_list (lstN (pa_cons pe_int (pa_cons pe_int pa_nil))) (pe_callTy call_int1 (by rfl) T.int (by decide +kernel) (pa_cons (pv 4) pa_nil)) (fun _ _ => rfl)) (pa_cons (pv 5) pa_nil))))))
      (cutS (ps_if (PW.pt (pw_and (pt_not (pt_val (pv 4))) (pw_and1 (pt_cmpR op_in_seq (pv 6) (tupN (pa_cons pe_int (pa_cons pe_int pa_nil))) (by rfl))))) (pss_one (ps_set (i := 8) sclaw.nd rfl (.inr rfl) (callD D_law_far (hr.mono (by decide)) (pa_cons (pv 1) (pa_cons (pv 6) pa_nil))))) pss_nil)
      (pss_cons (ps_set (i := 9) sclaw.nd rfl (.inr rfl) (callD D_law_paths_text (hr.mono (by decide)) (pa_cons (pv 8) pa_nil)))
      (cutS (ps_if (PW.pt (pw_and (pt_val (pv 4)) (pw_and1 (pt_cmpR op_ne (callD Dshow_paths (hr.mono (by decide)) (pa_cons (pv 8) pa_nil)) (pv 9) (nomark _))))) (pss_one (ps_ret pe_bl)) pss_nil)
      (pss_cons (ps_set (i := 10) sclaw.nd rfl (.inl rfl) (callD Dread_paths (hr.mono (by decide)) (pa_cons (pv 9) pa_nil)))
      (pss_cons (ps_if (PW.pt (pw_or (pt_cmpR op_ne (pe_callB (call_repr hr.gd hr.room.units) (by rfl) T.repr (by decide +kernel) (pa_cons (pv 10) pa_nil)) (pe_callB (call_repr hr.gd hr.room.units) (by rfl) T.repr (by decide +kernel) (pa_cons (pv 8) pa_nil)) (nomark _)) (pw_or1 (pt_cmpR op_ne (callD Dshow_paths (hr.mono (by decide)) (pa_cons (pv 10) pa_nil)) (pv 9) (nomark _))))) (pss_one (ps_ret pe_bl)) pss_nil)
      (cutS (ps_if (PW.pt (pw_and (pt_cmpR op_lt (pe_callB call_len_str (by rfl) T.len (by decide +kernel) (pa_cons (pv 9) pa_nil)) pe_int (nomark _)) (pw_and1 (PW.pt (pw_or (pt_not (pt_val (callD D_law_refused (hr.mono (by decide)) (pa_cons (pe_op op_add_str (pv 9) pe_str) pa_nil)))) (pw_or1 (pt_not (pt_val (callD D_law_refused (hr.mono (by decide)) (pa_cons (pe_op op_add_str (pv 9) pe_str) pa_nil)))))))))) (pss_one (ps_ret pe_bl)) pss_nil)
      (pss_cons (ps_if (pt_cmpR op_ne (pe_callB (call_repr hr.gd hr.room.units) (by rfl) T.repr (by decide +kernel) (pa_cons (callD Dread_paths (hr.mono (by decide)) (pa_cons (pv 9) pa_nil)) pa_nil)) (pe_callB (call_repr hr.gd hr.room.units) (by rfl) T.repr (by decide +kernel) (pa_cons (pv 10) pa_nil)) (nomark _)) (pss_one (ps_ret pe_bl)) pss_nil)
      (pss_one (ps_expr (pe_bm PySem.F.plainAttrs_list PySem.F.slot_list_append PySem.F.type_list_append mt_append (pv 2) (pa_cons (tupN (pa_cons (pv 8) (pa_cons (pv 9) pa_nil))) pa_nil))))))))))))))))))
      (pss_cons (ps_for PassesOwn.never rfl (pi_list (pv 2)) (pg_tup (by rfl) (pgs_cons (pg_name (i := 8) sclaw.nd rfl (.inr rfl)) (pgs_cons (pg_name (i := 9) sclaw.nd rfl (.inr rfl)) pgs_nil))) (pss_cons (ps_if (pt_cmpR op_ne (callD Dshow_paths (hr.mono (by decide)) (pa_cons (pv 8) pa_nil)) (pv 9) (nomark _)) (pss_one (ps_ret pe_bl)) pss_nil)
      (pss_one (ps_if (pt_cmpR (op_neD hr.room.units) (pe_lc (own := [("_law_one", 11)]) (g := gName 11) (by rfl) sclaw.nd (pi_list (pv 2)) (blkOk_by (own := [("_law_one", 11)]) (N := ["_law_script", "_law_deck_here", "_law_kept", "_law_turn", "_law_great", "_law_way", "_law_sort", "_law_many", "_law_paths_here", "_law_text", "_law_found", "_law_one"]) (sc := defScope slaw) (by decide +kernel)) (fun _ _ _ _ _ => (pg_name (i := 11) sclaw.nd rfl (.inl rfl))) (fun _ _ _ _ _ => (pts_one (pt_cmpR op_ne (pe_cmpR op_eq (pe_ix (ix_tupk (K := K) rfl) (pv 11) pe_int (fun _ _ => rfl)) (pv 9) (nomark _)) (pe_cmpR (op_eqDk (K := K) rfl hr.room.units) (pe_ix (ix_tupk (K := K) rfl) (pv 11) pe_int (fun _ _ => rfl)) (pv 8) (nomark _)) (nomark _)))) (fun _ _ _ _ _ => (pv 11))) (lstN pa_nil) (nomark _)) (pss_one (ps_ret pe_bl)) pss_nil))))
      (pss_one (ps_ret (pe_and (pe_cmpR op_eq (callD Dshow_paths (hr.mono (by decide)) (pa_cons (tupN pa_nil) pa_nil)) pe_str (nomark _)) (pe_one (pe_cmpR (op_eqD hr.room.units) (callD Dread_paths (hr.mono (by decide)) (pa_cons pe_str pa_nil)) (tupN pa_nil) (nomark _)))))))))), ?_⟩
    have two : (2 : Nat) ≤ sizeLine := by decide
    have slz : sizeLine = 16777216 := by decide
    refine ⟨_, rfl, as, ns, rfl, hS, hlen, fun d l H1 s1 D1 => ?_⟩
    have tf1 := s1.tab tf
    refine ⟨Nat.zero_le _, fun L H2 nL sL eL => ?_⟩
    have nd := D1.nd nL
    have S2 := Step.of D1 sL
    have tf2 := sL.tab tf1
    clear tf tf1 hS s1
    refine ⟨5, rfl, by decide, by decide, ?_⟩
    refine for_range (n := 5) (fun i σ' H' => ∃ y3 y4 y5 y6 y7 y8 y9 y10 y11, σ' = [some (.ref as), some (.ref d), some (.ref L), y3, y4, y5, y6, y7, y8, y9, y10, y11] ∧ Deck H' d l ∧ TabG H' Pf ∧ ∃ ws es, H' L = some (.lst ws) ∧ AllAt (Ent6 K H') ws es ∧ (∀ e ∈ es, Gd e) ∧ es.length = i) ?_ ?_ ?_
    · exact ⟨_, _, _, _, _, _, _, _, _, rfl, S2.deck, tf2, [], [], eL, .nil, (fun e he => (List.not_mem_nil he).elim), rfl⟩
    · clear eL nL sL S2 tf2 D1
      rintro i σ' H2 hi ⟨y3, y4, y5, y6, y7, y8, y9, y10, y11, rfl, D2, tf, ws, es, eL, hA, ke, le⟩
      refine ⟨_, rfl, d, l, 4, rfl, by decide, by decide, D2, fun o H3 o0 o4 S3 => ⟨rfl, ?_⟩⟩
      generalize hoo : (V.bl (decide (V.int o = V.int 1)) : V) = z4
      obtain ⟨ob, rfl⟩ : ∃ ob, z4 = V.bl ob := ⟨_, hoo.symm⟩
      refine ⟨_, rfl, d, l, 5, rfl, by decide, by decide, S3.deck, fun way H4 w0 w5 S4 => ?_⟩
      have S24 := S3.trans S4
      refine ⟨fun σ' H' => ∃ wy, σ' = [some (.ref as), some (.ref d), some (.ref L), some (.int (0 + (i : Int))), some (.bl ob), some (.int wy), y6, y7, y8, y9, y10, y11] ∧ Step d l H2 H' ∧ 0 ≤ wy ∧ wy ≤ 4, ?_, ?_⟩
      · refine ⟨_, rfl, _, rfl, ?_⟩
        cases ob with
        | false => exact iteF ⟨way, rfl, S24, w0, by omega⟩
        | true => exact iteT ⟨_, rfl, _, _, rfl, rfl, (show (0 : Int) < 3 by decide), _, rfl, S24, by omega, by omega⟩
      clear S24 S4 S3 hoo
      rintro σ' H3 ⟨wy, rfl, S3, wy0, wy4⟩
      refine ⟨_, rfl, d, l, 8, rfl, by decide, by decide, S3.deck, fun so H4 so0 so8 S4 => ?_⟩
      have S24 := S3.trans S4
      refine ⟨_, rfl, _, _, rfl, rfl, (show (0 : Int) < 5 by decide), two, fun p5 H5 n5 s5 e5 => ?_⟩
      have S25 := S24.trans (Step.of S4.deck s5)
      obtain ⟨m, hat, m12⟩ : ∃ m : Nat, atI [V.int (so % 5), .int 12] (if ob = true then 1 else 0) = some (.int m) ∧ (m ≤ 4 ∨ (m = 12 ∧ ob = true)) := by
        obtain ⟨sn, hsn⟩ := Int.eq_ofNat_of_zero_le (show 0 ≤ so % 5 by omega)
        cases ob with
        | false => exact ⟨sn, by rw [hsn]; rfl, .inl (by omega)⟩
        | true => exact ⟨12, rfl, .inr ⟨rfl, rfl⟩⟩
      refine ⟨_, rfl, .inr ⟨ob, rfl, p5, _, _, .int m, rfl, rfl, .inl (.inl e5), hat, ?_⟩⟩
      refine ⟨_, rfl, _, rfl, two, fun p6 H6 n6 s6 e6 => ?_⟩
      have S26 := S25.trans (Step.of S25.deck s6)
      obtain ⟨gl, hgl, gl60, glm⟩ : ∃ gl : Nat, atI [V.int 6, .int 60] (if ob = true then 1 else 0) = some (.int gl) ∧ gl ≤ 60 ∧ 1 ≤ gl := by
        cases ob with
        | false => exact ⟨6, rfl, by decide, by decide⟩
        | true => exact ⟨60, rfl, by decide, by decide⟩
      refine ⟨_, rfl, .inr ⟨ob, rfl, p6, _, _, .int gl, rfl, rfl, .inl (.inl e6), hgl, ?_⟩⟩
      have m12' : m ≤ 12 := by omega
      refine ⟨_, rfl, d, l, m, gl, wy, rfl, by omega, glm, gl60, wy0, wy4, S26.deck, fun v pss H7 S7 hv kp ln => ?_⟩
      have S27 := S26.trans S7
      have gd : Gd pss := gd_of kp ln (by have : m * gl ≤ 12 * 60 := Nat.mul_le_mul m12' gl60; omega) (by omega)
      refine ⟨fun σ' H' => ∃ v pss, σ' = [some (.ref as), some (.ref d), some (.ref L), some (.int (0 + (i : Int))), some (.bl ob), some (.int wy), some (.int so), some (.int m), some v, y9, y10, y11] ∧ Step d l H2 H' ∧ AtPs K H' v pss ∧ Gd pss, ?_, ?_⟩
      · refine ⟨_, rfl, _, rfl, ?_⟩
        cases ob with
        | true => exact iteF (iteF ⟨v, pss, rfl, S27, hv, gd⟩)
        | false =>
          refine iteT ⟨_, rfl, two, fun p8 H8 n8 s8 e8 => ⟨p8, _, rfl, .inr (.inl (.inl e8)), rfl, rfl, _, rfl, ?_⟩⟩
          have S28 := S27.trans (Step.of S27.deck s8)
          refine ite2 (fun _ => ?_) (fun _ => ?_)
          · exact ⟨_, rfl, _, rfl, d, l, so, rfl, S28.deck, fun w9 ps9 H9 S9 hw gd9 => ⟨w9, ps9, rfl, S28.trans S9, hw, gd9⟩⟩
          · exact ⟨v, pss, rfl, S28, hv.same6 s8, gd⟩
      clear gd kp hv S27 S7 S26 S25 S24 S4 S3 e6 s6 n6 e5 s5 n5
      rintro σ' H4 ⟨v, pss, rfl, S24, hv, gd⟩
      have tf4 := stepTab D2 S24 tf
      have tx1 := psL_len gd.d
      have txl : (psS pss).length ≤ 70000 := by
        show (toS (psL pss)).length ≤ 70000
        rw [len_tl, tl_toS]
        omega
      refine ⟨_, rfl, v, pss, rfl, hv, gd.d, fun H5 s5 => ?_⟩
      refine ⟨fun σ' H' => σ' = [some (.ref as), some (.ref d), some (.ref L), some (.int (0 + (i : Int))), some (.bl ob), some (.int wy), some (.int so), some (.int m), some v, some (.str (psS pss)), y10, y11] ∧ Same H4 H', ?_, ?_⟩
      · refine ⟨_, rfl, _, rfl, ?_⟩
        cases ob with
        | false => exact iteF (iteF ⟨rfl, s5⟩)
        | true => exact iteT ⟨_, rfl, v, pss, rfl, hv.same6 s5, gd.d, fun H6 s6 => ⟨_, rfl, rfl, _, rfl, ite2 (fun z => by simp at z) (fun _ => ⟨rfl, s5.trans s6⟩)⟩⟩
      clear s5
      rintro σ' H5 ⟨rfl, s5⟩
      have hb : pathsP (tl (psS pss)) = some pss := psL_back gd
      refine ⟨_, rfl, psS pss, pss, rfl, s5.tab tf4, okT_ps gd, hb, fun w6 H6 s6 hR => ?_⟩
      have s46 := s5.trans s6
      have fR := fine_Ps gd.d
      have hv6 := hv.same6 s46
      refine ⟨_, rfl, w6, _, rfl, hR.dp6, fR, _, rfl, v, _, rfl, hv6.dp6, fR, rfl, _, rfl, ite2 (fun z => by simp at z) (fun _ => ?_)⟩
      refine ⟨_, rfl, w6, pss, rfl, hR, gd.d, fun H8 s8 => ⟨_, rfl, rfl, _, rfl, ite2 (fun z => by simp at z) (fun _ => ?_)⟩⟩
      have s48 := s46.trans s8
      refine ⟨fun σ' H' => σ' = [some (.ref as), some (.ref d), some (.ref L), some (.int (0 + (i : Int))), some (.bl ob), some (.int wy), some (.int so), some (.int m), some v, some (.str (psS pss)), some w6, y11] ∧ Same H8 H', ?_, ?_⟩
      · refine ⟨_, rfl, _, rfl, by omega, _, _, rfl, rfl, _, rfl, ite2 (fun _ => ?_) (fun _ => ?_)⟩
        · have z1 : (("
" : String) : Str).length ≤ 1 := by decide
          have z2 : (("," : String) : Str).length ≤ 1 := by decide
          refine ⟨_, rfl, _, _, rfl, rfl, by omega, _, rfl, s48.tab tf4, okT_end gd, ?_, fun H9 s9 => ⟨_, rfl, iteF ?_⟩⟩
          · rw [tl_append]
            exact psL_end
          refine ⟨_, rfl, _, _, rfl, rfl, by omega, _, rfl, (s48.trans s9).tab tf4, okT_comma gd, ?_, fun HA sA => ⟨_, rfl, iteF ⟨rfl, s9.trans sA⟩⟩⟩
          rw [tl_append]
          exact psL_comma gd
        · exact iteF ⟨rfl, .refl _⟩
      rintro σ' HA ⟨rfl, sA⟩
      have s4A := s48.trans sA
      refine ⟨_, rfl, psS pss, pss, rfl, s4A.tab tf4, okT_ps gd, hb, fun w9 HB sB hR9 => ?_⟩
      have s8B := sA.trans sB
      refine ⟨_, _, rfl, hR9.dp6, fR, _, rfl, _, _, rfl, (hR.same6 (s8.trans s8B)).dp6, fR, rfl, _, rfl, ite2 (fun z => by simp at z) (fun _ => ?_)⟩
      have s4B := s4A.trans sB
      have eB := s4B _ _ (S24.at nd.1 nd.2 eL)
      refine ⟨_, rfl, .inl ⟨rfl, _, .inl (.inl eB)⟩, _, rfl, _, rfl, two, fun pE HC nE sE eE => ?_⟩
      have s4C := s4B.trans sE
      have eC := sE _ _ eB
      have DC := (Step.of S24.deck s4C).deck
      refine ⟨L, _, _, rfl, rfl, eC, ?_, _, _, _, _, _, _, _, _, _, rfl, DC.upd nd.1 nd.2, tabU eC (s4C.tab tf4), ws ++ [.ref pE], es ++ [pss], upd_same, ?_, ?_, ?_⟩
      · rw [hA.length, le]
        exact small1000 (by omega)
      · exact ((hA.map fun _ _ z => (z.step S24 D2).same s4C).map fun _ _ z => Ent6.upd z eC).app (.cons (Ent6.upd ⟨pE, v, rfl, .inl (.inl eE), hv.same6 s4C⟩ eC) .nil)
      · intro e he
        rcases List.mem_append.mp he with he | he
        · exact ke e he
        · rw [List.mem_singleton.mp he]
          exact gd
      · rw [List.length_append, List.length_singleton, le]
    · rintro σ' H2 ⟨y3, y4, y5, y6, y7, y8, y9, y10, y11, rfl, D2, tf, ws, es, eL, hA, ke, le⟩
      refine ⟨_, rfl, L, rfl, ⟨_, .inl (.inl eL)⟩, for_list (K := K) (a := L) (xs := ws) (fun i σ' H' => ∃ y8 y9 y11, σ' = [some (.ref as), some (.ref d), some (.ref L), y3, y4, y5, y6, y7, y8, y9, y10, y11] ∧ Same H2 H') ⟨_, _, _, rfl, .refl _⟩ (fun i σ' H' _ z => by obtain ⟨_, _, _, _, s'⟩ := z; exact .inl (.inl (s' _ _ eL))) (fun i x σ' H' hx z => ?_) (fun σ' H' z => ?_)⟩
      · obtain ⟨y8, y9, y11, rfl, s'⟩ := z
        obtain ⟨e, he, p, u, rfl, hp, hu⟩ := hA.get hx
        have hp' := seT s' hp
        have ok := ke e (List.mem_of_getElem? he)
        refine ⟨p, _, rfl, hp', rfl, _, _, rfl, _, _, rfl, rfl, ?_⟩
        refine ⟨_, rfl, u, e, rfl, hu.same6 s', ok.d, fun H4 s4 => ⟨_, rfl, rfl, _, rfl, ite2 (fun z => by simp at z) (fun _ => ?_)⟩⟩
        have s24 := s'.trans s4
        have eL4 := s24 _ _ eL
        refine ⟨_, rfl, L, rfl, ⟨_, .inl (.inl eL4)⟩, fun pD nD => ?_⟩
        refine lcL (K := K) (a := L) (xs := ws) (fun i H' => Same H4 H' ∧ H' pD = some (.lst [])) nD (fun H' e1 e2 => ⟨e1, e2⟩) (fun i H' _ z => .inl (.inl (show H' L = some (.lst ws) from z.1 _ _ eL4))) (fun i z H' hz w => ?_) (fun H6 z => ?_)
        · obtain ⟨t1, t2⟩ := w
          obtain ⟨e', he', p', u', rfl, hq, hu'⟩ := hA.get hz
          have ok' := ke e' (List.mem_of_getElem? he')
          have S := s24.trans t1
          have hq' := seT S hq
          refine ⟨rfl, _, rfl, p', _, 1, _, rfl, rfl, hq', rfl, _, rfl, rfl, ?_⟩
          refine ⟨_, rfl, p', _, 0, _, rfl, rfl, hq', rfl, _, rfl, ?_⟩
          refine ⟨_, _, (hu'.same6 S).dp6, (hu.same6 S).dp6, shapedPs _, shapedPs _, ?_⟩
          have eb : decide (V.str (psS e') = V.str (psS e)) = PyData.eqv (dPs e') (dPs e) := by
            rw [eqv_Ps]
            exact decide_eq_decide.mpr ⟨fun z => psS_inj ok' ok (V.str.inj z), fun z => by rw [z]⟩
          refine ⟨rfl, _, rfl, ?_⟩
          rw [eb, decide_eq_true rfl]
          exact ⟨t1, t2⟩
        obtain ⟨t1, t2⟩ := z
        refine ⟨Nat.zero_le _, fun pN HN nN sN eN => ⟨.list [], .list [], .lst (.inl (.inl (sN _ _ t2))) .nil, .lst (.inl (.inl eN)) .nil, rfl, rfl, _, rfl, ite2 (fun z => absurd z (by decide)) (fun _ => ?_)⟩⟩
        exact ⟨_, _, _, rfl, s24.trans (t1.trans sN)⟩
      · obtain ⟨y8, y9, y11, rfl, s'⟩ := z
        refine ⟨Nat.zero_le _, fun p0 H4 n4 s4 e4 => ⟨.ref p0, [], rfl, ⟨p0, [], rfl, .inl (.inl e4), .nil⟩, gd_nil.d, fun H5 s5 => ⟨rfl, _, rfl, ?_⟩⟩⟩
        have e00 : psS [] = (("" : String) : Str) := rfl
        rw [e00, decide_eq_true rfl]
        have s25 := s'.trans (s4.trans s5)
        have hb : pathsP (tl (("" : String) : Str)) = some [] := rfl
        refine iteT ⟨_, [], rfl, s25.tab tf, okT_ps gd_nil, hb, fun w6 H6 s6 hR => ⟨Nat.zero_le _, fun p1 H7 n7 s7 e7 => ?_⟩⟩
        have a2 : AtPs K H7 (.ref p1) [] := ⟨p1, [], rfl, .inl (.inl e7), .nil⟩
        refine ⟨_, _, (hR.same6 s7).dp6, a2.dp6, shapedPs _, shapedPs _, ?_⟩
        rw [eqv_Ps, decide_eq_true rfl]
        exact q H7

end
end Cl

set_option maxHeartbeats 0
namespace Cl
open PySem PySem.Spec PyProof.Rows L2
open GxR (TabB TabG)
/-! ### the end where a def makes a lambda too -/
def tabA (K : PySem.W.Frag) : Value → Option Addr
  | .ref c => match K.lookup c with
    | some o => match o.data with
      | .fields (vs : Array Value) => match (vs[11]? : Option Value) with
        | some (Value.ref P) => some P
        | _ => none
      | _ => none
    | none => none
  | _ => none
def tabDis (K : PySem.W.Frag) (x y : Value) : Bool := match tabA K x, tabA K y with
  | some a, some b => a != b
  | _, _ => false
theorem tabA_at {K : PySem.W.Frag} {h : Heap} {c P P' : Addr} (X : K.In h) (C : PySem.W.CodeHd h c P) (e : tabA K (.ref c) = some P') : P' = P := by
  obtain ⟨o, vs, _, _, _, _, _, _, _, h1, _, h3, h4, _⟩ := C
  unfold tabA at e
  simp only at e
  split at e
  · rename_i o' ho
    have := X _ _ ho
    rw [h1] at this
    cases this
    rw [h3] at e
    simp only [h4] at e
    exact (Option.some.inj e).symm
  · cases e
theorem tabDis_ne {K : PySem.W.Frag} {h : Heap} {c c' P P' : Addr} (X : K.In h) (C : PySem.W.CodeHd h c P) (C' : PySem.W.CodeHd h c' P') (d : tabDis K (.ref c) (.ref c') = true) : P ≠ P' := by
  unfold tabDis at d
  split at d
  · rename_i a b e1 e2
    rw [← tabA_at X C e1, ← tabA_at X C' e2]
    exact of_decide_eq_true (by simpa using d)
  · cases d
theorem endGL {l : PySem.W.OpenLaw} {n k : Nat} {q : Program} {loose : List Str} {XP : (Str → Option Value) → Heap → Prop}
    {YP : World → Heap → Prop} {d : DefRec} {K : Params → PySem.W.Frag} {sp : PySem.W.Frag → List (Addr × Addr) → List (Addr × Addr) → Sp} {x : Str} {ts : List Str}
    (hn : l.most = some n) (hn2 : n ≤ sizeLine) (hdf : d.params.defaults = []) (hr : RG k callerA) (hrec : (ts.all fun n => (recsOf q).any fun e => e.name == n) = true)
    (hY : ∀ (w : World) (h : Heap), YP w h → (K w.params).In h)
    (F : ∀ (w : World) (mg : Str → Option Value) (fa : Addr) (h : Heap), (K w.params).In h → h.Ns mainGlobals mg →
      mg d.name = some (.ref fa) → (∀ n ∈ ts, TabN mg h n) → ∃ (fd : FuncData) (cs1 cs2 : List (Addr × Addr)), (∀ p ∈ cs1 ++ cs2, PySem.W.CodeHd h p.1 p.2 ∧ h.TableAt p.1 p.2 #[] ∧ (K w.params).lookup p.2 = none) ∧ (∀ p ∈ cs1, ∀ p' ∈ cs2, p.2 ≠ p'.2) ∧ (∀ (s : Shared) (u : Value), BindsTo s fd ⟨[u], []⟩ [(x, u)]) ∧
        ∀ base : Heap, (K w.params).In base → base.Ns mainGlobals mg → (∀ p ∈ cs1 ++ cs2, TabB base mg p.1 p.2) → FnG l.prog w (K w.params) mg base CX0 k fa fd [x] (sp (K w.params) cs1 cs2))
    (hsp : ∀ (w : World) (cs1 cs2 : List (Addr × Addr)) (H : Hp) (a : Addr) (ns : List Int), ns.length ≤ n → (∀ z ∈ ns, Builtin.Int.intBits z ≤ 1048576) →
      (∀ p ∈ cs1, H p.2 = some (.tbl #[])) → (∀ p ∈ cs2, H p.2 = some (TabAt p.2 [])) → (∀ p ∈ cs1, ∀ p' ∈ cs2, p.2 ≠ p'.2) → SqL (K w.params) H a (ns.map V.int) → sp (K w.params) cs1 cs2 [.ref a] H (fun v H' => v = .bl true ∧ ∀ p ∈ cs2, ∃ cs' : List Addr, H' p.2 = some (TabAt p.2 cs')) E0) :
    PySem.W.WalkO q loose XP YP l.row.toRowW d [] (fun f vs => PySem.call f vs) := by
  refine Att.attach_callB hn hdf fun w s₀ s1 mg mb fa o pm cd doc a us ns G Y ho hd hcd hmg obj hints nlen bits gens => ?_
  have inK : (K w.params).In s1.heap := hY w _ Y
  have tn : ∀ n ∈ ts, TabN mg s1.heap n := fun n hn => by
    obtain ⟨dL, h1, h2⟩ := List.any_eq_true.mp (List.all_eq_true.mp hrec n hn)
    have h2 : dL.name = n := beq_iff_eq.mp h2
    obtain ⟨f, o, fd, c, P, t1, t2, t3, t4, t5, t6⟩ := G.T.tab dL h1
    exact ⟨f, o, fd, c, P, by rw [← h2]; exact t1, t2, t3, t4, .of t5 t6, t6⟩
  obtain ⟨fd, cs1, cs2, hcs, hne, bind, hF⟩ := F w mg fa _ inK G.T.g hmg tn
  have rv := vals_ints hints
  have nv : us.length = ns.length := hints.length
  obtain ⟨T, hT⟩ : ∃ T, T = (cs1 ++ cs2).map (·.2) := ⟨_, rfl⟩
  obtain ⟨T2, hT2⟩ : ∃ T2, T2 = cs2.map (·.2) := ⟨_, rfl⟩
  have isT : ∀ b ∈ T, s1.heap.get? b = some { cls := .none, data := .fields #[] } := fun b hb => by
    rw [hT] at hb
    obtain ⟨p, hp, e⟩ := List.mem_map.mp hb
    rw [← e]
    exact (hcs p hp).2.1.2
  have memT : ∀ p ∈ cs1 ++ cs2, p.2 ∈ T := fun p hp => by rw [hT]; exact List.mem_map.mpr ⟨p, hp, rfl⟩
  have memT2 : ∀ p ∈ cs2, p.2 ∈ T2 := fun p hp => by rw [hT2]; exact List.mem_map.mpr ⟨p, hp, rfl⟩
  have subT : ∀ b ∈ T2, b ∈ T := fun b hb => by
    rw [hT2] at hb
    obtain ⟨p, hp, e⟩ := List.mem_map.mp hb
    rw [← e]
    exact memT p (List.mem_append_right _ hp)
  have offT : ∀ p ∈ cs1, p.2 ∉ T2 := fun p hp z => by
    rw [hT2] at z
    obtain ⟨p', hp', e⟩ := List.mem_map.mp z
    exact hne p hp p' hp' e.symm
  have aT : a ∉ T := fun z => by
    have q := isT a z
    rw [obj] at q
    have z' : Data.seq us.toArray _ = Data.fields #[] := congrArg Obj.data (Option.some.inj q)
    cases z'
  have small : ns.length ≤ sizeLine := Nat.le_trans nlen hn2
  have go : ∀ H : Hp, (∀ b ∈ T, b ∉ T2 → H b = some (.tbl #[])) → (∀ b ∈ T2, H b = some (TabAt b [])) → (∀ b, b ∉ T → H b = none ∨ ∃ ob xs, H b = some (.frz ob (.lst xs))) → SqL (K w.params) H a (ns.map V.int) → HOk l.prog w H s1.heap → (∀ b, H b ≠ none → b = a ∨ b ∈ T) →
      (H a ≠ none → (K w.params).lookup a = none) → codeAny (model l.prog w) callerA (.call (.ref fa) ⟨[.ref a], []⟩)
        (fun r s' => r = .ok (.ret (.bool true)) ∧ OldK s1.heap s'.heap ∧ s'.os = s1.os ∧ AllBare s'.gens) s1 := by
    intro H hTb hTb2 only hS hok atA offK
    have left : ∀ {b : Addr} {o : Obj}, s1.heap.get? b = some o → H b = none → (hidT s1.heap H).get? b = some o :=
      fun e z => hidT_get e z
    -- what is no list and no empty table is not tracked
    have nothing : ∀ {b : Addr} {o : Obj}, s1.heap.get? b = some o → (∀ vs n, o.data ≠ .seq vs n) → o.data ≠ .fields #[] → H b = none := fun {b o} e h1 h2 => by
      cases z : H b with
      | none => rfl
      | some u =>
        rcases atA b (by rw [z]; intro y; cases y) with y | y
        · rw [y, obj] at e
          cases e
          exact absurd rfl (h1 _ _)
        · rw [isT b y] at e
          cases e
          exact absurd rfl h2
    have spaces : ∀ {b : Addr} {m : Str → Option Value}, s1.heap.Ns b m → (hidT s1.heap H).Ns b m :=
      fun {b m} ⟨o, es, ep, e, z, r⟩ => ⟨o, es, ep, left e (nothing e (fun vs n y => by rw [z] at y; cases y) (fun y => by rw [z] at y; cases y)), z, r⟩
    have inB : (K w.params).In (hidT s1.heap H) := fun b o e => left (inK b o e) (by
      cases z : H b with
      | none => rfl
      | some u =>
        rcases atA b (by rw [z]; intro y; cases y) with y | y
        · subst y
          rw [offK (by rw [z]; intro y; cases y)] at e
          cases e
        · rw [hT] at y
          obtain ⟨p, hp, ep⟩ := List.mem_map.mp y
          rw [← ep, (hcs p hp).2.2] at e
          cases e)
    have md : Mod (K w.params) mg (hidT s1.heap H) := by
      obtain ⟨mc, c1, c2⟩ := G.T.nolimit
      exact ⟨inB, spaces G.T.g, ⟨mb, spaces G.T.b, G.T.builtins⟩, ⟨mc, spaces c1, c2⟩⟩
    have TB : ∀ p ∈ cs1 ++ cs2, TabB (hidT s1.heap H) mg p.1 p.2 := fun p hp => by
      have hTp := isT _ (memT p hp)
      refine ⟨?_, ?_, fun z => ?_⟩
      · obtain ⟨o, us', file, tf, flags, tg, inF, text, tt, e1, r1, r2, r3, r⟩ := (hcs p hp).1
        refine ⟨o, us', file, tf, flags, tg, inF, text, tt, left e1 (nothing e1 (fun vs n z => ?_) fun z => ?_), r1, r2, r3, r⟩
        · rw [r2] at z
          cases z
        · rw [r2] at z
          cases z
          simp at r3
      · obtain ⟨bm, ob, b1, b2, b3, b4, b5, b6⟩ := G.T.bmain
        have nG : bm ≠ mainGlobals := fun y => by
          obtain ⟨o, es, ep, e, z, _⟩ := G.T.g
          rw [y, e] at b3
          cases b3
          rw [z] at b6
          cases b6
        have nP : bm ≠ p.2 := fun y => by
          rw [y, hTp] at b3
          cases b3
          cases b6
        refine ⟨bm, ob, b1, b2, nG, nP, left b3 (nothing b3 (fun vs n z => ?_) fun z => ?_), b4, b5, b6⟩
        · rw [b6] at z
          cases z
        · rw [b6] at z
          cases z
      · obtain ⟨o, es, ep, e, y, _⟩ := G.T.g
        rw [z, hTp] at e
        cases e
        cases y
    have e0 : Env0 l.prog w (K w.params) mg (hidT s1.heap H) callerA [] s1 H :=
      ⟨rfl, md, fun b o e => of_hidT e, Nat.le_of_eq (hidT_size _ _), trivial, fun b z => (nomatch z), hok, .of_eq gens⟩
    have run := (hF _ inB (spaces G.T.g) TB).run callerA [] s1 H ⟨[.ref a], []⟩ [.ref a] [.ref a] _ _ hr e0
      (bind s1 (.ref a)) (.cons rfl .nil) (hsp w cs1 cs2 H a ns nlen bits (fun p hp => hTb _ (memT p (List.mem_append_left _ hp)) (offT p hp)) (fun p hp => hTb2 _ (memT2 p hp)) hne hS)
    refine codeAny_mono run fun res s' h => ?_
    match res, h with
    | .error e, h => exact h.elim
    | .ok .next, h => exact h.elim
    | .ok .brk, h => exact h.elim
    | .ok .cont, h => exact h.elim
    | .ok (.ret u), ⟨v, H', os, bare, un, hok', r', q⟩ =>
      obtain ⟨q', qT⟩ := q
      subst q'
      have r2 : u = Value.bool true := r'
      subst r2
      have stays : ∀ b o, b ∉ T → s1.heap.get? b = some o → s'.heap.get? b = some o := fun b o hb e => by
        cases z : H b with
        | none => exact un.keep b o e z (fun y => (nomatch y)) (fun y => (nomatch y))
        | some u =>
          rcases only b hb with y | ⟨ob, xs, y⟩
          · rw [z] at y
            cases y
          · obtain ⟨e1, _⟩ := hok b _ y
            obtain ⟨e2, _⟩ := hok' b _ (un.frzs b ob _ y)
            rw [e] at e1
            cases e1
            exact e2
      have grows : ∀ b ∈ T, ∃ more : Array Value, s'.heap.get? b = some { cls := .none, data := .fields (#[] ++ more) } := fun b hb => by
        by_cases hb2 : b ∈ T2
        · rw [hT2] at hb2
          obtain ⟨p, hp, e⟩ := List.mem_map.mp hb2
          obtain ⟨cs', e'⟩ := qT p hp
          rw [← e]
          obtain ⟨⟨ps, e3, _⟩, _⟩ := hok' _ _ e'
          exact ⟨ps, by rw [e3]; simp⟩
        · obtain ⟨more, z⟩ := un.tbls b #[] (hTb b hb hb2)
          exact ⟨more, hok' b _ z⟩
      refine ⟨rfl, ⟨fun b o e => ?_, fun b o e => ?_⟩, os, bare⟩
      · by_cases hb : b ∈ T
        · obtain ⟨more, hm⟩ := grows b hb
          have hb2 := hb
          rw [hT] at hb2
          obtain ⟨p, hp, ep⟩ := List.mem_map.mp hb2
          rw [isT b hb] at e
          cases e
          exact .inr (.inl ⟨by rw [← ep]; exact (hcs p hp).2.1.isCodeTable, rfl, #[], more, rfl, hm⟩)
        · exact .inl (stays b o hb e)
      · by_cases hb : b ∈ T
        · obtain ⟨more, hm⟩ := grows b hb
          exact ⟨_, hm⟩
        · exact ⟨o, stays b o hb e⟩
  let Hf : Option HO → Hp := fun u b => if b ∈ T2 then some (TabAt b []) else if b ∈ T then some (.tbl #[]) else if b = a then u else none
  have hf : ∀ u b, b ∈ T → b ∉ T2 → Hf u b = some (.tbl #[]) := fun u b hb hb2 => (if_neg hb2).trans (if_pos hb)
  have hf0 : ∀ u b, b ∈ T2 → Hf u b = some (TabAt b []) := fun u b hb => if_pos hb
  have hf2 : ∀ u b, b ∉ T → b ≠ a → Hf u b = none := fun u b hb hn => (if_neg fun z => hb (subT b z)).trans ((if_neg hb).trans (if_neg hn))
  have hf3 : ∀ u, Hf u a = u := fun u => (if_neg fun z => aT (subT a z)).trans ((if_neg aT).trans (if_pos rfl))
  have okT : ∀ b ∈ T2, ∀ H : Hp, ObjOk l.prog w H s1.heap b (TabAt b []) := fun b hb H => ⟨⟨#[], isT b (subT b hb), True.intro, fun pos cv hc => by
    have z : codeAmong pos [] = some cv := hc
    simp [codeAmong] at z⟩, ⟨_, isT b (subT b hb)⟩, fun h1 h2 ⟨ps, a, b, c⟩ st => ⟨ps, st _ a, b, c⟩⟩
  cases hk : (K w.params).lookup a with
  | some o =>
    have e := inK a o hk
    rw [obj] at e
    cases e
    refine go (Hf none) (fun b hb => hf none b hb) (hf0 none) (fun b hb => ?_) (.inr ⟨_, us.toArray, _, hk, rfl, rfl, rfl, ?_, by simpa using rv⟩)
      (fun b u z => ?_) (fun b z => ?_) fun z => absurd (hf3 none) z
    · by_cases hn : b = a
      · rw [hn]; exact .inl (hf3 none)
      · exact .inl (hf2 none b hb hn)
    · rw [List.size_toArray, nv]
      exact small
    · by_cases hb : b ∈ T
      · by_cases hb2 : b ∈ T2
        · rw [hf0 none b hb2] at z
          cases z
          exact okT b hb2 _
        · rw [hf none b hb hb2] at z
          cases z
          exact isT b hb
      · by_cases hn : b = a
        · rw [hn, hf3] at z; cases z
        · rw [hf2 none b hb hn] at z; cases z
    · by_cases hb : b ∈ T
      · exact .inr hb
      · by_cases hn : b = a
        · exact .inl hn
        · exact absurd (hf2 none b hb hn) z
  | none =>
    let ob : Obj := { cls := .type "list", data := .seq us.toArray }
    refine go (Hf (some (.frz ob (.lst (ns.map V.int))))) (fun b hb => hf _ b hb) (hf0 _) (fun b hb => ?_) (.inl (.inr ⟨ob, hf3 _⟩)) (fun b u z => ?_) (fun b z => ?_) fun _ => hk
    · by_cases hn : b = a
      · rw [hn]; exact .inr ⟨_, _, hf3 _⟩
      · exact .inl (hf2 _ b hb hn)
    · by_cases hb : b ∈ T
      · by_cases hb2 : b ∈ T2
        · rw [hf0 _ b hb2] at z
          cases z
          exact okT b hb2 _
        · rw [hf _ b hb hb2] at z
          cases z
          exact isT b hb
      · by_cases hn : b = a
        · rw [hn, hf3] at z
          cases z
          rw [hn]
          exact ⟨obj, by rw [List.length_map]; exact small, us, _, rv, obj⟩
        · rw [hf2 _ b hb hn] at z; cases z
    · by_cases hb : b ∈ T
      · exact .inr hb
      · by_cases hn : b = a
        · exact .inl hn
        · exact absurd (hf2 _ b hb hn) z
end Cl

set_option maxHeartbeats 0
namespace Cl
open PySem PySem.Spec PyProof.Rows L2
open GxR (TabB TabG)

def spLawTs (K : PySem.W.Frag) : List (Addr × Addr) → Sp
  | [p] => spLaw6 K p.2
  | _ => fun _ _ Q _ => ∀ H', Q (.bl true) H'
def noTab (K : PySem.W.Frag) : Bool := K.all fun p => match p.2.cls, p.2.data with
  | .none, .fields vs => vs.size != 0
  | _, _ => true
theorem noTab_at {K : PySem.W.Frag} {h : Heap} {P : Addr} (X : K.In h) (n : noTab K = true) (e : h.get? P = some { cls := .none, data := .fields #[] }) : K.lookup P = none := by
  cases q : K.lookup P with
  | none => rfl
  | some o =>
    have h1 := X _ _ q
    rw [e] at h1
    cases h1
    have hm : ∀ (L : List (Addr × Obj)) (o : Obj), L.lookup P = some o → (P, o) ∈ L := fun L => by
      induction L with
      | nil => intro o z; cases z
      | cons y L ih =>
        intro o z
        rw [List.lookup_cons] at z
        split at z
        · rename_i hb
          have := eq_of_beq hb
          cases z
          rw [this]
          exact List.mem_cons_self ..
        · exact List.mem_cons_of_mem _ (ih _ z)
    have := List.all_eq_true.mp n _ (hm _ _ q)
    cases this

theorem all_mk {l : PySem.W.OpenLaw} {w : World} {K : PySem.W.Frag} {h : Heap} {mg : Str → Option Value} {fa : Addr} (X : K.In h) (G : h.Ns mainGlobals mg) (hfa : mg "law" = some (.ref fa))
    {CT CE : Addr} {tF tM : Nat}
    {fare_figures : Addr} {odare_figures anare_figures : Option Addr} {slare_figures : Array (Option Value)} {ocare_figures kVare_figures dcare_figures pmare_figures cdare_figures ctare_figures : Value}
    {fnumber_of : Addr} {odnumber_of annumber_of : Option Addr} {slnumber_of : Array (Option Value)} {ocnumber_of kVnumber_of dcnumber_of pmnumber_of cdnumber_of ctnumber_of : Value}
    {f_law_deck : Addr} {od_law_deck an_law_deck : Option Addr} {sl_law_deck : Array (Option Value)} {oc_law_deck kV_law_deck dc_law_deck pm_law_deck cd_law_deck ct_law_deck : Value}
    {f_law_draw : Addr} {od_law_draw an_law_draw : Option Addr} {sl_law_draw : Array (Option Value)} {oc_law_draw kV_law_draw dc_law_draw pm_law_draw cd_law_draw ct_law_draw : Value}
    {f_law_whole : Addr} {od_law_whole an_law_whole : Option Addr} {sl_law_whole : Array (Option Value)} {oc_law_whole kV_law_whole dc_law_whole pm_law_whole cd_law_whole ct_law_whole : Value}
    {f_law_pair : Addr} {od_law_pair an_law_pair : Option Addr} {sl_law_pair : Array (Option Value)} {oc_law_pair kV_law_pair dc_law_pair pm_law_pair cd_law_pair ct_law_pair : Value}
    {f_law_paths : Addr} {od_law_paths an_law_paths : Option Addr} {sl_law_paths : Array (Option Value)} {oc_law_paths kV_law_paths dc_law_paths pm_law_paths cd_law_paths ct_law_paths : Value}
    {f_law_far : Addr} {od_law_far an_law_far : Option Addr} {sl_law_far : Array (Option Value)} {oc_law_far kV_law_far dc_law_far pm_law_far cd_law_far ct_law_far : Value}
    {f_law_paths_text : Addr} {od_law_paths_text an_law_paths_text : Option Addr} {sl_law_paths_text : Array (Option Value)} {oc_law_paths_text kV_law_paths_text dc_law_paths_text pm_law_paths_text cd_law_paths_text ct_law_paths_text : Value}
    {fpath_row : Addr} {odpath_row anpath_row : Option Addr} {slpath_row : Array (Option Value)} {ocpath_row kVpath_row dcpath_row pmpath_row cdpath_row ctpath_row : Value}
    {fshow_paths : Addr} {odshow_paths anshow_paths : Option Addr} {slshow_paths : Array (Option Value)} {ocshow_paths kVshow_paths dcshow_paths pmshow_paths cdshow_paths ctshow_paths : Value}
    {f_law_refused : Addr} {od_law_refused an_law_refused : Option Addr} {sl_law_refused : Array (Option Value)} {oc_law_refused kV_law_refused dc_law_refused pm_law_refused cd_law_refused ct_law_refused : Value}
    {frows_of : Addr} {odrows_of anrows_of : Option Addr} {slrows_of : Array (Option Value)} {ocrows_of kVrows_of dcrows_of pmrows_of cdrows_of ctrows_of : Value}
    {fnumbers_in : Addr} {odnumbers_in annumbers_in : Option Addr} {slnumbers_in : Array (Option Value)} {ocnumbers_in kVnumbers_in dcnumbers_in pmnumbers_in cdnumbers_in ctnumbers_in : Value}
    {fpath_in : Addr} {odpath_in anpath_in : Option Addr} {slpath_in : Array (Option Value)} {ocpath_in kVpath_in dcpath_in pmpath_in cdpath_in ctpath_in : Value}
    {fread_paths : Addr} {odread_paths anread_paths : Option Addr} {slread_paths : Array (Option Value)} {ocread_paths kVread_paths dcread_paths pmread_paths cdread_paths ctread_paths : Value}
    {flaw : Addr} {odlaw anlaw : Option Addr} {sllaw : Array (Option Value)} {oclaw kVlaw dclaw pmlaw cdlaw ctlaw : Value}
    (xq : PySem.W.excIn K CT [.type "ValueError", .type "Exception", .type "BaseException", .type "object"] "ValueError.__new__" = true) (xa : PySem.W.nsIn K mainGlobals "NoText" = some (some (.ref CT))) (xk : PySem.W.keepIn K (.ref CT) = true) (xb : PySem.W.subIn K (.ref CT) (.type "BaseException") = some true) (xt : PySem.W.typeIn K (.ref CT) = some (.type "type")) (xs : PySem.W.subIn K (.ref CT) (.ref CT) = some true)
    (xeg : PySem.W.findIn K (.ref CT) "__getattribute__" = some (some (.builtin "BaseException.__getattribute__"))) (xek : PySem.W.findIn K (.ref CT) "__getattr__" = some none) (xed : PySem.W.hasDictIn K CT = true) (xea : PySem.W.findIn K (.ref CT) "__class__" = some (some (.builtin "object.__class__"))) (xen : PySem.W.specialIn K (.builtin "object.__class__") "__get__" = some (some (.builtin "getset_descriptor.__get__"))) (xet : PySem.W.takesIn K (.builtin "object.__class__") = some true) (xem : PySem.W.mroIn K CT (.type "object") = some true)
    (xEa : PySem.W.nsIn K mainGlobals "DrawError" = some (some (.ref CE))) (xEb : PySem.W.subIn K (.ref CE) (.type "BaseException") = some true) (xEd : PySem.W.hasDictIn K CE = true) (xEt : PySem.W.typeIn K (.ref CE) = some (.type "type")) (xEs : PySem.W.subIn K (.ref CT) (.ref CE) = some true)
    (gFa : PySem.W.nsIn K mainGlobals "FIGURES" = some (some (.str "0123456789" tF))) (gMa : PySem.W.nsIn K mainGlobals "MOST_FIGURES" = some (some (.int 30 tM)))
    (aare_figures : PySem.W.nsIn K mainGlobals "are_figures" = some (some (.ref fare_figures))) (lare_figures : K.lookup fare_figures = some ⟨ocare_figures, odare_figures, .func (PySem.W.fnOf "are_figures" "are_figures" (defArgs sare_figures) (defBody sare_figures) (defScope sare_figures) .none kVare_figures dcare_figures pmare_figures anare_figures cdare_figures ctare_figures), slare_figures⟩) (care_figures : PySem.W.codeIn K cdare_figures "are_figures" = true) (kare_figures : PySem.W.keepIn K (.ref fare_figures) = true)
    (anumber_of : PySem.W.nsIn K mainGlobals "number_of" = some (some (.ref fnumber_of))) (lnumber_of : K.lookup fnumber_of = some ⟨ocnumber_of, odnumber_of, .func (PySem.W.fnOf "number_of" "number_of" (defArgs snumber_of) (defBody snumber_of) (defScope snumber_of) .none kVnumber_of dcnumber_of pmnumber_of annumber_of cdnumber_of ctnumber_of), slnumber_of⟩) (cnumber_of : PySem.W.codeIn K cdnumber_of "number_of" = true) (knumber_of : PySem.W.keepIn K (.ref fnumber_of) = true)
    (a_law_deck : PySem.W.nsIn K mainGlobals "_law_deck" = some (some (.ref f_law_deck))) (l_law_deck : K.lookup f_law_deck = some ⟨oc_law_deck, od_law_deck, .func (PySem.W.fnOf "_law_deck" "_law_deck" (defArgs s_law_deck) (defBody s_law_deck) (defScope s_law_deck) .none kV_law_deck dc_law_deck pm_law_deck an_law_deck cd_law_deck ct_law_deck), sl_law_deck⟩) (c_law_deck : PySem.W.codeIn K cd_law_deck "_law_deck" = true) (k_law_deck : PySem.W.keepIn K (.ref f_law_deck) = true)
    (a_law_draw : PySem.W.nsIn K mainGlobals "_law_draw" = some (some (.ref f_law_draw))) (l_law_draw : K.lookup f_law_draw = some ⟨oc_law_draw, od_law_draw, .func (PySem.W.fnOf "_law_draw" "_law_draw" (defArgs s_law_draw) (defBody s_law_draw) (defScope s_law_draw) .none kV_law_draw dc_law_draw pm_law_draw an_law_draw cd_law_draw ct_law_draw), sl_law_draw⟩) (c_law_draw : PySem.W.codeIn K cd_law_draw "_law_draw" = true) (k_law_draw : PySem.W.keepIn K (.ref f_law_draw) = true)
    (a_law_whole : PySem.W.nsIn K mainGlobals "_law_whole" = some (some (.ref f_law_whole))) (l_law_whole : K.lookup f_law_whole = some ⟨oc_law_whole, od_law_whole, .func (PySem.W.fnOf "_law_whole" "_law_whole" (defArgs s_law_whole) (defBody s_law_whole) (defScope s_law_whole) .none kV_law_whole dc_law_whole pm_law_whole an_law_whole cd_law_whole ct_law_whole), sl_law_whole⟩) (c_law_whole : PySem.W.codeIn K cd_law_whole "_law_whole" = true) (k_law_whole : PySem.W.keepIn K (.ref f_law_whole) = true)
    (a_law_pair : PySem.W.nsIn K mainGlobals "_law_pair" = some (some (.ref f_law_pair))) (l_law_pair : K.lookup f_law_pair = some ⟨oc_law_pair, od_law_pair, .func (PySem.W.fnOf "_law_pair" "_law_pair" (defArgs s_law_pair) (defBody s_law_pair) (defScope s_law_pair) .none kV_law_pair dc_law_pair pm_law_pair an_law_pair cd_law_pair ct_law_pair), sl_law_pair⟩) (c_law_pair : PySem.W.codeIn K cd_law_pair "_law_pair" = true) (k_law_pair : PySem.W.keepIn K (.ref f_law_pair) = true)
    (a_law_paths : PySem.W.nsIn K mainGlobals "_law_paths" = some (some (.ref f_law_paths))) (l_law_paths : K.lookup f_law_paths = some ⟨oc_law_paths, od_law_paths, .func (PySem.W.fnOf "_law_paths" "_law_paths" (defArgs s_law_paths) (defBody s_law_paths) (defScope s_law_paths) .none kV_law_paths dc_law_paths pm_law_paths an_law_paths cd_law_paths ct_law_paths), sl_law_paths⟩) (c_law_paths : PySem.W.codeIn K cd_law_paths "_law_paths" = true) (k_law_paths : PySem.W.keepIn K (.ref f_law_paths) = true)
    (a_law_far : PySem.W.nsIn K mainGlobals "_law_far" = some (some (.ref f_law_far))) (l_law_far : K.lookup f_law_far = some ⟨oc_law_far, od_law_far, .func (PySem.W.fnOf "_law_far" "_law_far" (defArgs s_law_far) (defBody s_law_far) (defScope s_law_far) .none kV_law_far dc_law_far pm_law_far an_law_far cd_law_far ct_law_far), sl_law_far⟩) (c_law_far : PySem.W.codeIn K cd_law_far "_law_far" = true) (k_law_far : PySem.W.keepIn K (.ref f_law_far) = true)
    (a_law_paths_text : PySem.W.nsIn K mainGlobals "_law_paths_text" = some (some (.ref f_law_paths_text))) (l_law_paths_text : K.lookup f_law_paths_text = some ⟨oc_law_paths_text, od_law_paths_text, .func (PySem.W.fnOf "_law_paths_text" "_law_paths_text" (defArgs s_law_paths_text) (defBody s_law_paths_text) (defScope s_law_paths_text) .none kV_law_paths_text dc_law_paths_text pm_law_paths_text an_law_paths_text cd_law_paths_text ct_law_paths_text), sl_law_paths_text⟩) (c_law_paths_text : PySem.W.codeIn K cd_law_paths_text "_law_paths_text" = true) (k_law_paths_text : PySem.W.keepIn K (.ref f_law_paths_text) = true)
    (apath_row : PySem.W.nsIn K mainGlobals "path_row" = some (some (.ref fpath_row))) (lpath_row : K.lookup fpath_row = some ⟨ocpath_row, odpath_row, .func (PySem.W.fnOf "path_row" "path_row" (defArgs spath_row) (defBody spath_row) (defScope spath_row) .none kVpath_row dcpath_row pmpath_row anpath_row cdpath_row ctpath_row), slpath_row⟩) (cpath_row : PySem.W.codeIn K cdpath_row "path_row" = true) (kpath_row : PySem.W.keepIn K (.ref fpath_row) = true)
    (ashow_paths : PySem.W.nsIn K mainGlobals "show_paths" = some (some (.ref fshow_paths))) (lshow_paths : K.lookup fshow_paths = some ⟨ocshow_paths, odshow_paths, .func (PySem.W.fnOf "show_paths" "show_paths" (defArgs sshow_paths) (defBody sshow_paths) (defScope sshow_paths) .none kVshow_paths dcshow_paths pmshow_paths anshow_paths cdshow_paths ctshow_paths), slshow_paths⟩) (cshow_paths : PySem.W.codeIn K cdshow_paths "show_paths" = true) (kshow_paths : PySem.W.keepIn K (.ref fshow_paths) = true)
    (a_law_refused : PySem.W.nsIn K mainGlobals "_law_refused" = some (some (.ref f_law_refused))) (l_law_refused : K.lookup f_law_refused = some ⟨oc_law_refused, od_law_refused, .func (PySem.W.fnOf "_law_refused" "_law_refused" (defArgs s_law_refused) (defBody s_law_refused) (defScope s_law_refused) .none kV_law_refused dc_law_refused pm_law_refused an_law_refused cd_law_refused ct_law_refused), sl_law_refused⟩) (c_law_refused : PySem.W.codeIn K cd_law_refused "_law_refused" = true) (k_law_refused : PySem.W.keepIn K (.ref f_law_refused) = true)
    (arows_of : PySem.W.nsIn K mainGlobals "rows_of" = some (some (.ref frows_of))) (lrows_of : K.lookup frows_of = some ⟨ocrows_of, odrows_of, .func (PySem.W.fnOf "rows_of" "rows_of" (defArgs srows_of) (defBody srows_of) (defScope srows_of) .none kVrows_of dcrows_of pmrows_of anrows_of cdrows_of ctrows_of), slrows_of⟩) (crows_of : PySem.W.codeIn K cdrows_of "rows_of" = true) (krows_of : PySem.W.keepIn K (.ref frows_of) = true)
    (anumbers_in : PySem.W.nsIn K mainGlobals "numbers_in" = some (some (.ref fnumbers_in))) (lnumbers_in : K.lookup fnumbers_in = some ⟨ocnumbers_in, odnumbers_in, .func (PySem.W.fnOf "numbers_in" "numbers_in" (defArgs snumbers_in) (defBody snumbers_in) (defScope snumbers_in) .none kVnumbers_in dcnumbers_in pmnumbers_in annumbers_in cdnumbers_in ctnumbers_in), slnumbers_in⟩) (cnumbers_in : PySem.W.codeIn K cdnumbers_in "numbers_in" = true) (knumbers_in : PySem.W.keepIn K (.ref fnumbers_in) = true)
    (apath_in : PySem.W.nsIn K mainGlobals "path_in" = some (some (.ref fpath_in))) (lpath_in : K.lookup fpath_in = some ⟨ocpath_in, odpath_in, .func (PySem.W.fnOf "path_in" "path_in" (defArgs spath_in) (defBody spath_in) (defScope spath_in) .none kVpath_in dcpath_in pmpath_in anpath_in cdpath_in ctpath_in), slpath_in⟩) (cpath_in : PySem.W.codeIn K cdpath_in "path_in" = true) (kpath_in : PySem.W.keepIn K (.ref fpath_in) = true)
    (aread_paths : PySem.W.nsIn K mainGlobals "read_paths" = some (some (.ref fread_paths))) (lread_paths : K.lookup fread_paths = some ⟨ocread_paths, odread_paths, .func (PySem.W.fnOf "read_paths" "read_paths" (defArgs sread_paths) (defBody sread_paths) (defScope sread_paths) .none kVread_paths dcread_paths pmread_paths anread_paths cdread_paths ctread_paths), slread_paths⟩) (cread_paths : PySem.W.codeIn K cdread_paths "read_paths" = true) (kread_paths : PySem.W.keepIn K (.ref fread_paths) = true)
    (alaw : PySem.W.nsIn K mainGlobals "law" = some (some (.ref flaw))) (llaw : K.lookup flaw = some ⟨oclaw, odlaw, .func (PySem.W.fnOf "law" "law" (defArgs slaw) (defBody slaw) (defScope slaw) .none kVlaw dclaw pmlaw anlaw cdlaw ctlaw), sllaw⟩) (claw : PySem.W.codeIn K cdlaw "law" = true) (klaw : PySem.W.keepIn K (.ref flaw) = true)
    (z0 : PySem.W.nsIn K mainGlobals "len" = some none) (z1 : PySem.W.nsIn K mainGlobals "all" = some none) (z2 : PySem.W.nsIn K mainGlobals "list" = some none) (z3 : PySem.W.nsIn K mainGlobals "sum" = some none) (z4 : PySem.W.nsIn K mainGlobals "int" = some none) (z5 : PySem.W.nsIn K mainGlobals "repr" = some none) (z6 : PySem.W.nsIn K mainGlobals "str" = some none) (z7 : PySem.W.nsIn K mainGlobals "range" = some none) (z8 : PySem.W.nsIn K mainGlobals "tuple" = some none) (z9 : PySem.W.nsIn K mainGlobals "set" = some none) (z10 : PySem.W.nsIn K mainGlobals "isinstance" = some none)
    (nt : noTab K = true) (tnare_figures : TabN mg h "are_figures") :
    ∃ (fd : FuncData) (cs : List (Addr × Addr)), (∀ p ∈ cs, PySem.W.CodeHd h p.1 p.2 ∧ h.TableAt p.1 p.2 #[] ∧ K.lookup p.2 = none) ∧ (∀ (s : Shared) (v : Value), BindsTo s fd ⟨[v], []⟩ [("_law_script", v)]) ∧
      ∀ base : Heap, K.In base → base.Ns mainGlobals mg → (∀ p ∈ cs, GxR.TabB base mg p.1 p.2) → FnG l.prog w K mg base CX0 9 fa fd ["_law_script"] (spLawTs K cs) := by
  have e := hfa.symm.trans (PySem.W.mg_of X G alaw)
  cases e
  have T : Bt mg := ⟨PySem.W.mg_none_of X G z0, PySem.W.mg_none_of X G z1, PySem.W.mg_none_of X G z2, PySem.W.mg_none_of X G z3, PySem.W.mg_none_of X G z4, PySem.W.mg_none_of X G z5, PySem.W.mg_none_of X G z6, PySem.W.mg_none_of X G z7, PySem.W.mg_none_of X G z8, PySem.W.mg_none_of X G z9, PySem.W.mg_none_of X G z10⟩
  have Fare_figures := fun_mk (st := sare_figures) lare_figures care_figures kare_figures
  have bare_figures := Fare_figures.binds (ps := ["word"]) fun _ _ _ _ _ _ us hl => match us, hl with | [_], _ => rfl
  have Fnumber_of := fun_mk (st := snumber_of) lnumber_of cnumber_of knumber_of
  have bnumber_of := Fnumber_of.binds (ps := ["word"]) fun _ _ _ _ _ _ us hl => match us, hl with | [_], _ => rfl
  have F_law_deck := fun_mk (st := s_law_deck) l_law_deck c_law_deck k_law_deck
  have b_law_deck := F_law_deck.binds (ps := ["_law_script"]) fun _ _ _ _ _ _ us hl => match us, hl with | [_], _ => rfl
  have F_law_draw := fun_mk (st := s_law_draw) l_law_draw c_law_draw k_law_draw
  have b_law_draw := F_law_draw.binds (ps := ["_law_deck_here", "_law_most"]) fun _ _ _ _ _ _ us hl => match us, hl with | [_, _], _ => rfl
  have F_law_whole := fun_mk (st := s_law_whole) l_law_whole c_law_whole k_law_whole
  have b_law_whole := F_law_whole.binds (ps := ["_law_deck_here", "_law_way"]) fun _ _ _ _ _ _ us hl => match us, hl with | [_, _], _ => rfl
  have F_law_pair := fun_mk (st := s_law_pair) l_law_pair c_law_pair k_law_pair
  have b_law_pair := F_law_pair.binds (ps := ["_law_deck_here", "_law_way"]) fun _ _ _ _ _ _ us hl => match us, hl with | [_, _], _ => rfl
  have F_law_paths := fun_mk (st := s_law_paths) l_law_paths c_law_paths k_law_paths
  have b_law_paths := F_law_paths.binds (ps := ["_law_deck_here", "_law_many", "_law_long", "_law_way"]) fun _ _ _ _ _ _ us hl => match us, hl with | [_, _, _, _], _ => rfl
  have F_law_far := fun_mk (st := s_law_far) l_law_far c_law_far k_law_far
  have b_law_far := F_law_far.binds (ps := ["_law_deck_here", "_law_sort"]) fun _ _ _ _ _ _ us hl => match us, hl with | [_, _], _ => rfl
  have F_law_paths_text := fun_mk (st := s_law_paths_text) l_law_paths_text c_law_paths_text k_law_paths_text
  have b_law_paths_text := F_law_paths_text.binds (ps := ["_law_paths_here"]) fun _ _ _ _ _ _ us hl => match us, hl with | [_], _ => rfl
  have Fpath_row := fun_mk (st := spath_row) lpath_row cpath_row kpath_row
  have bpath_row := Fpath_row.binds (ps := ["path"]) fun _ _ _ _ _ _ us hl => match us, hl with | [_], _ => rfl
  have Fshow_paths := fun_mk (st := sshow_paths) lshow_paths cshow_paths kshow_paths
  have bshow_paths := Fshow_paths.binds (ps := ["paths"]) fun _ _ _ _ _ _ us hl => match us, hl with | [_], _ => rfl
  have F_law_refused := fun_mk (st := s_law_refused) l_law_refused c_law_refused k_law_refused
  have b_law_refused := F_law_refused.binds (ps := ["_law_text"]) fun _ _ _ _ _ _ us hl => match us, hl with | [_], _ => rfl
  have Frows_of := fun_mk (st := srows_of) lrows_of crows_of krows_of
  have brows_of := Frows_of.binds (ps := ["text"]) fun _ _ _ _ _ _ us hl => match us, hl with | [_], _ => rfl
  have Fnumbers_in := fun_mk (st := snumbers_in) lnumbers_in cnumbers_in knumbers_in
  have bnumbers_in := Fnumbers_in.binds (ps := ["row", "many"]) fun _ _ _ _ _ _ us hl => match us, hl with | [_, _], _ => rfl
  have Fpath_in := fun_mk (st := spath_in) lpath_in cpath_in kpath_in
  have bpath_in := Fpath_in.binds (ps := ["row"]) fun _ _ _ _ _ _ us hl => match us, hl with | [_], _ => rfl
  have Fread_paths := fun_mk (st := sread_paths) lread_paths cread_paths kread_paths
  have bread_paths := Fread_paths.binds (ps := ["text"]) fun _ _ _ _ _ _ us hl => match us, hl with | [_], _ => rfl
  have Flaw := fun_mk (st := slaw) llaw claw klaw
  obtain ⟨ft0, ot0, fdt0, c0, Pt0, t1, t2, t3, t4, t50, t60⟩ := tnare_figures
  have e := t1.symm.trans (PySem.W.mg_of X G aare_figures)
  cases e
  have e := t2.symm.trans (X _ _ lare_figures)
  cases e
  cases t3
  have hcd0 : cdare_figures = .ref c0 := t4
  clear t1 t2 t4
  refine ⟨PySem.W.fnOf "law" "law" (defArgs slaw) (defBody slaw) (defScope slaw) .none kVlaw dclaw pmlaw anlaw cdlaw ctlaw, [(c0, Pt0)], fun p hp => ?_, fun s v => .of_eq rfl, fun base _ _ hB => ?_⟩
  · simp only [List.mem_cons, List.not_mem_nil, or_false] at hp
    rcases hp with rfl
    · exact ⟨t50, t60, noTab_at X nt t60.2⟩
  have hX : XC K mg "NoText" CT := ⟨xq, PySem.W.mg_of X G xa, xk, xb, xt, xs, ⟨xeg, xek, xb, xed, xea, xen, xet, xem⟩⟩
  have hE : XE5 K mg CT CE := ⟨PySem.W.mg_of X G xEa, PySem.W.exm_ref xEb xEd xEt xEs⟩
  have hG : GFig mg := ⟨⟨_, PySem.W.mg_of X G gFa⟩, ⟨_, PySem.W.mg_of X G gMa⟩⟩
  have Dare_figures : Def l.prog w K mg base 3 "are_figures" ["word"] (spFig K Pt0) := .mk1 Fare_figures (okare_figures Fare_figures hcd0 (hB (c0, Pt0) (by simp)) T hG) (PySem.W.mg_of X G aare_figures) bare_figures
  have Dnumber_of : Def l.prog w K mg base 4 "number_of" ["word"] (spNum5 K Pt0) := .mk1 Fnumber_of (oknumber_of Fnumber_of T hG Dare_figures) (PySem.W.mg_of X G anumber_of) bnumber_of
  have Drows_ofX : DefX l.prog w K mg base 1 "rows_of" ["text"] (spRows K CT) := ⟨_, _, okrows_of Frows_of T hX , PySem.W.mg_of X G arows_of, Frows_of.kp, brows_of⟩
  have Dnumbers_inX : DefX l.prog w K mg base 5 "numbers_in" ["row", "many"] (spNums K CT Pt0) := ⟨_, _, oknumbers_in Fnumbers_in T hX Dnumber_of, PySem.W.mg_of X G anumbers_in, Fnumbers_in.kp, bnumbers_in⟩
  have Dpath_inX : DefX l.prog w K mg base 6 "path_in" ["row"] (spPathIn K CT Pt0) := ⟨_, _, okpath_in Fpath_in T hX Dnumbers_inX, PySem.W.mg_of X G apath_in, Fpath_in.kp, bpath_in⟩
  have Dread_pathsX : DefX l.prog w K mg base 7 "read_paths" ["text"] (spReadP K CT Pt0) := ⟨_, _, okread_paths Fread_paths T hX Drows_ofX Dpath_inX, PySem.W.mg_of X G aread_paths, Fread_paths.kp, bread_paths⟩
  have Dread_paths : Def l.prog w K mg base 7 "read_paths" ["text"] (spReadPC K Pt0) := read_calm6 Dread_pathsX
  have D_law_deck : Def l.prog w K mg base 1 "_law_deck" ["_law_script"] (spDeck K) := .mk1 F_law_deck (ok_law_deck F_law_deck T) (PySem.W.mg_of X G a_law_deck) b_law_deck
  have D_law_draw : Def l.prog w K mg base 1 "_law_draw" ["_law_deck_here", "_law_most"] spDraw := .mk1 F_law_draw (ok_law_draw F_law_draw T) (PySem.W.mg_of X G a_law_draw) b_law_draw
  have D_law_whole : Def l.prog w K mg base 2 "_law_whole" ["_law_deck_here", "_law_way"] spWhole5 := .mk1 F_law_whole (ok_law_whole F_law_whole T D_law_draw) (PySem.W.mg_of X G a_law_whole) b_law_whole
  have D_law_pair : Def l.prog w K mg base 3 "_law_pair" ["_law_deck_here", "_law_way"] (spPair5 K) := .mk1 F_law_pair (ok_law_pair F_law_pair T D_law_whole) (PySem.W.mg_of X G a_law_pair) b_law_pair
  have D_law_paths : Def l.prog w K mg base 4 "_law_paths" ["_law_deck_here", "_law_many", "_law_long", "_law_way"] (spPaths6 K) := .mk1 F_law_paths (ok_law_paths F_law_paths T D_law_pair D_law_draw) (PySem.W.mg_of X G a_law_paths) b_law_paths
  have D_law_far : Def l.prog w K mg base 5 "_law_far" ["_law_deck_here", "_law_sort"] (spFar6 K) := .mk1 F_law_far (ok_law_far F_law_far T D_law_draw D_law_paths) (PySem.W.mg_of X G a_law_far) b_law_far
  have D_law_paths_text : Def l.prog w K mg base 1 "_law_paths_text" ["_law_paths_here"] (spShowP K) := .mk1 F_law_paths_text (ok_law_paths_text F_law_paths_text T) (PySem.W.mg_of X G a_law_paths_text) b_law_paths_text
  have Dpath_row : Def l.prog w K mg base 1 "path_row" ["path"] (spPathRow K) := .mk1 Fpath_row (okpath_row Fpath_row T) (PySem.W.mg_of X G apath_row) bpath_row
  have Dshow_paths : Def l.prog w K mg base 2 "show_paths" ["paths"] (spShowP K) := .mk1 Fshow_paths (okshow_paths Fshow_paths T Dpath_row) (PySem.W.mg_of X G ashow_paths) bshow_paths
  have D_law_refused : Def l.prog w K mg base 8 "_law_refused" ["_law_text"] (spRef6 K Pt0) := .mk1 F_law_refused (ok_law_refused F_law_refused T hE Dread_pathsX) (PySem.W.mg_of X G a_law_refused) b_law_refused
  exact oklaw Flaw T D_law_deck D_law_draw D_law_paths D_law_far D_law_paths_text Dshow_paths Dread_paths D_law_refused
end Cl
open PySem PySem.W PyProof.Rows
set_option maxHeartbeats 0 in
theorem PySem.Challenge.cw_cornerlines_k06_paths_written_and_read_holds : PySem.Challenge.rw_cornerlines_k06_paths_written_and_read.Holds := by
  w_on; o_law; k_head; (case hw => w_witness2)
  k_fill
  refine Cl.endGT (l := PySem.Challenge.rw_cornerlines_k06_paths_written_and_read) (n := 63) (k := 9) (x := "_law_script") (ts := ["are_figures"]) (sp := fun K cs => Cl.spLawTs K cs) rfl (by decide) rfl ⟨⟨rfl, by decide, by decide⟩, rfl⟩ (by rfl) (fun w h Y => PySem.W.kIn_of Y) ?F ?hsp
  case F =>
    intro w mg fa h KX G hmg tn
    refine' Cl.all_mk KX G hmg ?xq ?xa ?xk ?xb ?xt ?xs ?xeg ?xek ?xed ?xea ?xen ?xet ?xem ?xEa ?xEb ?xEd ?xEt ?xEs ?gFa ?gMa ?a0 ?l0 ?c0 ?k0 ?a1 ?l1 ?c1 ?k1 ?a2 ?l2 ?c2 ?k2 ?a3 ?l3 ?c3 ?k3 ?a4 ?l4 ?c4 ?k4 ?a5 ?l5 ?c5 ?k5 ?a6 ?l6 ?c6 ?k6 ?a7 ?l7 ?c7 ?k7 ?a8 ?l8 ?c8 ?k8 ?a9 ?l9 ?c9 ?k9 ?a10 ?l10 ?c10 ?k10 ?a11 ?l11 ?c11 ?k11 ?a12 ?l12 ?c12 ?k12 ?a13 ?l13 ?c13 ?k13 ?a14 ?l14 ?c14 ?k14 ?a15 ?l15 ?c15 ?k15 ?a16 ?l16 ?c16 ?k16 ?z0 ?z1 ?z2 ?z3 ?z4 ?z5 ?z6 ?z7 ?z8 ?z9 ?z10 ?nt (tn _ (by simp))
    (case xa => k_is); (case xea => k_is); (case xEa => k_is); (case gFa => k_is); (case gMa => k_is); (case xq => k_exc); (case xk => k_is); (case xb => k_is); (case xt => k_is); (case xs => k_is); (case xeg => k_is); (case xek => k_is); (case xed => k_is); (case xen => k_is); (case xet => k_is); (case xem => k_is); (case xEb => k_is); (case xEd => k_is); (case xEt => k_is); (case xEs => k_is)
    (case nt => first | (with_unfolding_all exact rfl) | (unfold Cl.noTab; with_unfolding_all rfl))
    (case a0 => k_is); (case l0 => k_is); (case c0 => k_is); (case k0 => k_is); (case a1 => k_is); (case l1 => k_is); (case c1 => k_is); (case k1 => k_is); (case a2 => k_is); (case l2 => k_is); (case c2 => k_is); (case k2 => k_is); (case a3 => k_is); (case l3 => k_is); (case c3 => k_is); (case k3 => k_is); (case a4 => k_is); (case l4 => k_is); (case c4 => k_is); (case k4 => k_is); (case a5 => k_is); (case l5 => k_is); (case c5 => k_is); (case k5 => k_is); (case a6 => k_is); (case l6 => k_is); (case c6 => k_is); (case k6 => k_is); (case a7 => k_is); (case l7 => k_is); (case c7 => k_is); (case k7 => k_is); (case a8 => k_is); (case l8 => k_is); (case c8 => k_is); (case k8 => k_is); (case a9 => k_is); (case l9 => k_is); (case c9 => k_is); (case k9 => k_is); (case a10 => k_is); (case l10 => k_is); (case c10 => k_is); (case k10 => k_is); (case a11 => k_is); (case l11 => k_is); (case c11 => k_is); (case k11 => k_is); (case a12 => k_is); (case l12 => k_is); (case c12 => k_is); (case k12 => k_is); (case a13 => k_is); (case l13 => k_is); (case c13 => k_is); (case k13 => k_is); (case a14 => k_is); (case l14 => k_is); (case c14 => k_is); (case k14 => k_is); (case a15 => k_is); (case l15 => k_is); (case c15 => k_is); (case k15 => k_is); (case a16 => k_is); (case l16 => k_is); (case c16 => k_is); (case k16 => k_is); (case z0 => k_is); (case z1 => k_is); (case z2 => k_is); (case z3 => k_is); (case z4 => k_is); (case z5 => k_is); (case z6 => k_is); (case z7 => k_is); (case z8 => k_is); (case z9 => k_is); (case z10 => k_is)
  case hsp =>
    intro w cs H a ns hl _ hc hS
    match cs, hc with
    | [], _ => exact fun _ => rfl
    | [p], hc => exact ⟨a, ns, rfl, hS, hl, ⟨#[], hc p (by simp), by trivial⟩, fun _ => rfl⟩
    | _ :: _ :: _, _ => exact fun _ => rfl

