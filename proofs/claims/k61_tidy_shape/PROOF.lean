import PyProof.Rows.All
import Wide.All
import OpenK.AllK
import Wide.FinOn
import Lean
import PyProof.EqAt
import PyProof.EqKinds
import PyProof.TupleCall
import PyProof.CompFree
import PyProof.StationsW
import PyProof.ExcClass3
import PyProof.Commute
import OpenK.KGet
import OpenK.KMeth
import PyProof.ExcArgs
import PyProof.ZipIter
import PyProof.ListNew
import PyProof.EnumMake
import PyProof.EnumStmt
import KE.KRevSl
import PyProof.WalkInts
import PyProof.Rows.MinMaxN
import PyProof.AttrMissHeap
import PyProof.DictList
import PyProof.DictUpdate
import KE.KDictOf
import PyProof.DictWalks
import KE.KDictList
import KE.KDictSum
import KE.KRevIter
import KE.KStateDown
import PyProof.AutoListH
import PyProof.ConsumeWalk
import PyProof.Conv_int_bool
import PyProof.DictRoadsH
import PyProof.EnumIter
import PyProof.ForAny
import PyProof.Rows.Range3
import PyProof.Rows.SetFrom
import PyProof.SetRoads
import PyProof.TupleIter
import PyProof.ZipIter
import PySem.SetOps
import PySem.Challenge.RW_unjump_k61_tidy_shape
open Bool renaming false_ne_true->Bf9, and_eq_true->Bz9
open PySem.W renaming Frag->Aa, findIn->Dr, keepIn->Hg, fnOf->Hh, kia_one->Hj, emptyDict->Ht, codeIn->Im, instObj->Ir, kitOne->Ka, isFn->Lo, nsIn->Lu, plainGet->Lw, mg_of->Mb, lookIn->Mh
open List renaming mem_cons->Ab, length_append->Ac, mem_cons_self->Ad, mem_cons_of_mem->Ae, length_cons->Af, getElem?_eq_getElem->Ah, getElem?_eq_some_iff->Ai, map_cons->Aj, size_toArray->Ak, length_map->Al, mem_append->Am, append_assoc->An, nodup_cons->Ao, mem_singleton->Aq, nodup_append->As, append_nil->Au, any_cons->Ax, mem_append_right->Bk, mem_append_left->Bs, map_append->Dc, getD_eq_getElem?_getD->Dd, mem_of_getElem?->Df, length_singleton->Dg, cons_append->Dh, getElem?_map->Dj, length_set->Dm, range->Dn, length_reverse->Dp, getElem?_set_ne->Dq, replicate->Ds, filterMap_cons->Du, pairwise_cons->Dv, getElem?_append_left->Dx, length_nil->Dy, map_nil->Dz, getElem?_set_self->Ex, set->Ha, length_take->Hk, lookup_cons->Hl, contains_iff_mem->Hn, nil_append->Ho, find?_cons->Hq, getElem_mem->Hs, foldl_append->Hu, drop_eq_getElem_cons->Hv, any_append->Hw, all_eq_true->Hy, any_eq_true->Hz, not_mem_nil->Ia, mem_flatMap->Ib, all_cons->Ic, getElem?_cons_zero->Ie, idxOf_append->Ig, replicate_succ->Ih, take_of_length_le->Ii, take_length->Ik, nil_sublist->Il, nodup_nil->Io, getElem?_eq_none->Ip, filterMap_append->Iq, sum_cons->Iw, getLast?_cons_cons->Ix, getElem?_cons_succ->Iy, lookup->Kb, length_eq_one_iff->Ke, getElem?_append_right->Kk, reverse_cons->Km, flatten_cons->Kn, dropLast_concat->Kr, take_succ->Kt, sublist_append_left->Kx, length_filterMap_le->Ky, length_eq_zero_iff->Lc, foldl_cons->Le, length->Lg, mem_range->Lm, sum_nil->Ls, isEmpty_nil->Ly
open PySem renaming wpAny_bind->Ag, wpAny_pure->Ar, wpAny_mono->Hi, Spec->Hm, wpAny_holding->Iv, wpAny_passesOwn->Ki, mem_of_lookup->La, wpAny_Call_Name_kw->Ld, sizeLine_eq->Lf, wpAny_newObj_type->Lj, call_meets->Lx, codeAny_mono->Mf, wpAny_typeOf->Mg
open PySem.Heap renaming get?_push_of_some->Ap, lt_size->Aw, get?_push_size->Di, get?_update_other->Kd, size_push->Lp, get?_update_self->Lq, SameBut->Me
open Ne renaming symm->Av
open PySem.Value renaming ref->Ay, type->Ko, none->Lv, str->Md
open False renaming elim->Az
open PySem.PyData renaming canLay0->Db, depthAll->Go, depth->Hb, canLayAll0->He, eqv->Ij, eqvAll->Ma
open List.cons renaming inj->De
open PySem.NameKind renaming free->Dk, cell->Fd
open PySem.SeqAt renaming EqAt->Dt
open Option.some renaming inj->Dw
open PyProof.Rows renaming slot_tuple_getitem->Hf
open Sum renaming inl->Hr
open PySem.Builtin.List renaming listTooLong->Hx, listExtendWith->Kg
open PySem.Obj renaming mapSeq->Iu
open True renaming intro->Kc
open LawfulBEq renaming eq_of_beq->Kf
open Int renaming emod_lt_of_pos->Kh, emod_nonneg->Kj, toNat_natCast->Kl
open PySem.Builtin.Slice renaming slicePlaces->Kq
open Option renaming isSome_iff_exists->Ku, bind_some->Kw, map_eq_some_iff->Lh, bind_none->Lz
open PySem.Builtin.Tuple renaming tupleExact->Kv
open Array renaming length_toList->Kz
open PySem.Builtin.Str renaming occurrences->Lb
open List.Sublist renaming cons_cons->Li, refl->Ll
open Iff renaming rfl->Lr
set_option tactic.hygienic false
set_option bootstrap.genMatcherCode false
set_option Elab.async false
set_option linter.all false
set_option maxRecDepth 100000
set_option genSizeOf false
set_option genInjectivity false
set_option compiler.extract_closed false
set_option autoImplicit true
set_option maxHeartbeats 0
namespace L2
open PySem
noncomputable def X8(s:Stmt):Arguments:=match s with
 | .FunctionDef _ a _ _ _ _ _ _ _ _=>a
 | _=>{posonlyargs:=[],args:=[],vararg:=none,kwonlyargs:=[],kw_defaults:=[],kwarg:=none,defaults:=[]}
noncomputable def Y9(s:Stmt):List Stmt:=match s with
 | .FunctionDef _ _ b _ _ _ _ _ _ _=>b
 | _=>[]
noncomputable def Zi(s:Stmt):Scope:=match s with
 | .FunctionDef _ _ _ _ _ _ a _ _ _=>a
 | _=>{kind:= .function,names:=[],isGenerator:=false,isCoroutine:=false}
end L2
namespace K61
open PySem
noncomputable def top(i:Nat):Stmt:=PySem.Challenge.pw_unjump_k61_tidy_shape.main.body.getD i (.Pass ⟨0,0,0,0⟩)
noncomputable def mth:Stmt->Nat->Stmt
 | .ClassDef _ _ _ b _ _ _ _ _ _ _,i=>b.getD i (.Pass ⟨0,0,0,0⟩)
 | s,_=>s
end K61
namespace Hand
open PySem PySem.Spec PyProof.Rows L2 K61
noncomputable def kf(n:Str)(i:Nat)(dV kV dc pm:Value)(an:Option Addr)(cd ct:Value):Obj:=⟨.type "function",none,.func (Hh n n (X8 (top i)) (Y9 (top i)) (Zi (top i)) dV kV dc pm an cd ct),#[]⟩
noncomputable def km(n q:Str)(s:Stmt)(m:Str)(t c:Nat):Obj:=⟨.type "function",none,.func (Hh n q (X8 s) (Y9 s) (Zi s) .none .none .none (.str m t) none (.ref c) .none),#[]⟩
noncomputable def kg(n:Str)(i:Nat)(m:Str)(t c:Nat):Obj:=kf n i .none .none .none (.str m t) none (.ref c) .none
noncomputable def kl(n:Str)(i c:Nat):Obj:=kg n i "law_unjump_k61_tidy_shape" 366 c
noncomputable def kc(n:Str)(t:Nat)(l a:Int)(r:Nat)(x y:Int)(z:Nat):Obj:=⟨.type "code",none,.fields #[.str n t,.str n (t+1),.str "/claim/cut.py" (t+2),.int l 0,.int a 0,.int 0 0,.int 0 0,.int 3 0,.ref r,.bool true,.int x 0,.ref (r+1),.none,.ref (r+2),.ref (r+3),.ref (r+4),.int y 0,.int l 0,.str "/claim/cut.py" z],#[]⟩
noncomputable def ke(P:Params)(x:Str)(t:Nat)(v:Value):DictEntry:=⟨PyData.keyHash P x,.str x t,v⟩
noncomputable abbrev kd:Value:= .type "dict"
noncomputable abbrev kR(a:Nat):Value:= .ref a
noncomputable abbrev kS(x:Str)(t:Nat):Value:= .str x t
noncomputable def KH(P:Params):Aa:=(nat_lit 2,⟨.none,none,.dict #[] 0,#[]⟩)::(nat_lit 3,⟨kd,none,.dict #[ke P "__name__" 165 (kS "law_unjump_k61_tidy_shape" 366),ke P "__doc__" 166 .none,ke P "__package__" 167 .none,ke P "__loader__" 168 (.builtin "__main__.__loader__#opaque"),ke P "__spec__" 169 .none,ke P "__annotations__" 170 (kR 6),ke P "__builtins__" 171 (kR 4),ke P "__file__" 173 (kS "/claim/cut.py" 172),ke P "__cached__" 174 .none,ke P "ELSE" 190 (kR 15),ke P "DONE" 192 (kR 16),ke P "OPENERS" 196 (kR 17),ke P "lines_of" 206 (kR 24),ke P "line_of" 213 (kR 31),ke P "told_within" 222 (kR 38),ke P "form_of" 233 (kR 45),ke P "lists_in" 240 (kR 52),ke P "Opened" 289 (kR 83),ke P "tidied" 300 (kR 94),ke P "closed" 309 (kR 101),ke P "closed_round" 317 (kR 108),ke P "closed_part" 327 (kR 115),ke P "has_line" 335 (kR 122),ke P "with_other" 341 (kR 127),ke P "cut_tails" 351 (kR 134),ke P "renumbered" 357 (kR 139),ke P "with_number" 365 (kR 146),ke P "_law_cell" 375 (kR 153),ke P "_law_mixed" 384 (kR 160),ke P "_law_names" 392 (kR 167),ke P "_law_operand" 401 (kR 174),ke P "_law_deed" 412 (kR 181),ke P "_law_closed" 420 (kR 188),ke P "_law_goto" 426 (kR 193),ke P "_law_opened" 437 (kR 200),ke P "_law_closed_too" 445 (kR 207),ke P "_law_step" 458 (kR 214),ke P "_law_form" 468 (kR 221),ke P "_law_has" 478 (kR 228),ke P "_law_on" 486 (kR 235),ke P "_law_at_tail" 494 (kR 242),ke P "_law_tidy_one" 503 (kR 249),ke P "_law_tidy" 513 (kR 256),ke P "_law_whole" 520 (kR 263),ke P "_law_operands" 528 (kR 270),ke P "_law_shape" 537 (kR 277),ke P "_law_shape_one" 546 (kR 284),ke P "_law_alike" 555 (kR 291),ke P "_law_numbered" 567 (kR 298),ke P "_law_leaving" 575 (kR 305),ke P "_law_wrapped" 587 (kR 312),ke P "_law_tidy_stays" 595 (kR 319),ke P "_law_spoilt" 604 (kR 326),ke P "law" 610 (kR 331)] 54,#[]⟩)::(nat_lit 15,⟨(.type "tuple"),none,.seq #[(.str "else" 189)] 0,#[]⟩)::(nat_lit 16,⟨(.type "tuple"),none,.seq #[(.str "done" 191)] 0,#[]⟩)::(nat_lit 17,⟨(.type "tuple"),none,.seq #[(.str "choice" 193),(.str "round" 194),(.str "part" 195)] 0,#[]⟩)::(nat_lit 23,kc "lines_of" 197 5 1 18 181 204 205)::(nat_lit 24,kg "lines_of" 4 "unjump.forms" 187 23)::(nat_lit 30,kc "line_of" 207 13 1 25 181 211 212)::(nat_lit 31,kg "line_of" 5 "unjump.forms" 187 30)::(nat_lit 37,kc "told_within" 214 19 1 32 181 220 221)::(nat_lit 38,kg "told_within" 6 "unjump.forms" 187 37)::(nat_lit 44,kc "form_of" 223 28 1 39 181 231 232)::(nat_lit 45,kg "form_of" 7 "unjump.forms" 187 44)::(nat_lit 51,kc "lists_in" 234 42 1 46 181 238 239)::(nat_lit 52,kg "lists_in" 8 "unjump.forms" 187 51)::(nat_lit 65,⟨(.type "code"),none,.fields #[(.str "__init__" 255),(.str "Opened.__init__" 256),(.str "/claim/cut.py" 257),(.int 51 0),(.int 2 0),(.int 0 0),(.int 0 0),(.int 3 0),(.ref 60),(.bool true),(.int 181 0),(.ref 61),.none,(.ref 62),(.ref 63),(.ref 64),(.int 260 0),(.int 51 0),(.str "/claim/cut.py" 261)],#[]⟩)::(nat_lit 66,km "__init__" "Opened.__init__" (mth (top 10) 0) "unjump.tidying" 241 65)::(nat_lit 72,⟨(.type "code"),none,.fields #[(.str "tell" 263),(.str "Opened.tell" 264),(.str "/claim/cut.py" 265),(.int 56 0),(.int 3 0),(.int 0 0),(.int 0 0),(.int 3 0),(.ref 67),(.bool true),(.int 181 0),(.ref 68),.none,(.ref 69),(.ref 70),(.ref 71),(.int 269 0),(.int 56 0),(.str "/claim/cut.py" 270)],#[]⟩)::(nat_lit 73,km "tell" "Opened.tell" (mth (top 10) 1) "unjump.tidying" 241 72)::(nat_lit 79,⟨(.type "code"),none,.fields #[(.str "begin_no" 272),(.str "Opened.begin_no" 273),(.str "/claim/cut.py" 274),(.int 61 0),(.int 1 0),(.int 0 0),(.int 0 0),(.int 3 0),(.ref 74),(.bool true),(.int 181 0),(.ref 75),.none,(.ref 76),(.ref 77),(.ref 78),(.int 276 0),(.int 61 0),(.str "/claim/cut.py" 277)],#[]⟩)::(nat_lit 80,km "begin_no" "Opened.begin_no" (mth (top 10) 2) "unjump.tidying" 241 79)::(nat_lit 81,⟨(.type "tuple"),none,.seq #[(.str "goings" 279),(.str "line" 280),(.str "lists" 281)] 0,#[]⟩)::(nat_lit 82,⟨kd,none,.dict #[ke P "__module__" 250 (kS "unjump.tidying" 241),ke P "__firstlineno__" 254 (.int 49 253),ke P "__init__" 262 (kR 66),ke P "tell" 271 (kR 73),ke P "begin_no" 278 (kR 80),ke P "__static_attributes__" 282 (kR 81),ke P "__dict__" 284 (kR 84),ke P "__weakref__" 286 (kR 85),ke P "__doc__" 287 .none] 4,#[]⟩)::(nat_lit 83,{cls:=Ko "type",data:=Data.cls {name:=Str.ofString "Opened",bases:=[Ko "object"],mro:=[Ay 83,Ko "object"],ns:=82,qualname:=Str.ofString "Opened"},slots:=#[none,none,some (Md (Str.ofString "Opened") 243),some (Md (Str.ofString "Opened") 251),some (Value.builtin "object.__new__"),some (Value.bool true)]})::(nat_lit 93,kc "tidied" 290 64 1 88 181 298 299)::(nat_lit 94,kg "tidied" 11 "unjump.tidying" 241 93)::(nat_lit 100,kc "closed" 301 77 1 95 181 307 308)::(nat_lit 101,kg "closed" 12 "unjump.tidying" 241 100)::(nat_lit 107,kc "closed_round" 310 89 2 102 181 315 316)::(nat_lit 108,kg "closed_round" 13 "unjump.tidying" 241 107)::(nat_lit 114,kc "closed_part" 318 92 3 109 181 325 326)::(nat_lit 115,kg "closed_part" 14 "unjump.tidying" 241 114)::(nat_lit 121,kc "has_line" 328 101 2 116 181 333 334)::(nat_lit 122,kg "has_line" 15 "unjump.tidying" 241 121)::(nat_lit 126,⟨(.type "code"),none,.fields #[(.str "with_other" 336),(.str "with_other" 337),(.str "/claim/cut.py" 338),(.int 103 0),(.int 3 0),(.int 0 0),(.int 0 0),(.int 3 0),(.ref 123),(.bool true),(.int 181 0),(.ref 124),.none,.none,.none,(.ref 125),(.int 339 0),(.int 103 0),(.str "/claim/cut.py" 340)],#[]⟩)::(nat_lit 127,kg "with_other" 16 "unjump.tidying" 241 126)::(nat_lit 133,kc "cut_tails" 342 105 2 128 181 349 350)::(nat_lit 134,kg "cut_tails" 17 "unjump.tidying" 241 133)::(nat_lit 138,⟨(.type "code"),none,.fields #[(.str "renumbered" 352),(.str "renumbered" 353),(.str "/claim/cut.py" 354),(.int 113 0),(.int 1 0),(.int 0 0),(.int 0 0),(.int 3 0),(.ref 135),(.bool true),(.int 181 0),(.ref 136),.none,.none,.none,(.ref 137),(.int 355 0),(.int 113 0),(.str "/claim/cut.py" 356)],#[]⟩)::(nat_lit 139,kg "renumbered" 18 "unjump.tidying" 241 138)::(nat_lit 145,kc "with_number" 358 118 2 140 181 363 364)::(nat_lit 146,kg "with_number" 19 "unjump.tidying" 241 145)::(nat_lit 152,kc "_law_cell" 368 123 2 147 181 373 374)::(nat_lit 153,kl "_law_cell" 21 152)::(nat_lit 159,kc "_law_mixed" 376 127 2 154 181 382 383)::(nat_lit 160,kl "_law_mixed" 22 159)::(nat_lit 166,kc "_law_names" 385 130 1 161 181 390 391)::(nat_lit 167,kl "_law_names" 23 166)::(nat_lit 173,kc "_law_operand" 393 134 3 168 181 399 400)::(nat_lit 174,kl "_law_operand" 24 173)::(nat_lit 180,kc "_law_deed" 402 140 3 175 181 410 411)::(nat_lit 181,kl "_law_deed" 25 180)::(nat_lit 187,kc "_law_closed" 413 146 1 182 181 418 419)::(nat_lit 188,kl "_law_closed" 26 187)::(nat_lit 192,⟨(.type "code"),none,.fields #[(.str "_law_goto" 421),(.str "_law_goto" 422),(.str "/claim/cut.py" 423),(.int 154 0),(.int 3 0),(.int 0 0),(.int 0 0),(.int 3 0),(.ref 189),(.bool true),(.int 181 0),(.ref 190),.none,.none,.none,(.ref 191),(.int 424 0),(.int 154 0),(.str "/claim/cut.py" 425)],#[]⟩)::(nat_lit 193,kl "_law_goto" 27 192)::(nat_lit 199,kc "_law_opened" 427 158 3 194 181 435 436)::(nat_lit 200,kl "_law_opened" 28 199)::(nat_lit 206,kc "_law_closed_too" 438 165 2 201 181 443 444)::(nat_lit 207,kl "_law_closed_too" 29 206)::(nat_lit 213,kc "_law_step" 446 168 4 208 181 456 457)::(nat_lit 214,kl "_law_step" 30 213)::(nat_lit 220,kc "_law_form" 459 188 2 215 181 466 467)::(nat_lit 221,kl "_law_form" 31 220)::(nat_lit 227,kc "_law_has" 469 195 2 222 181 476 477)::(nat_lit 228,kl "_law_has" 32 227)::(nat_lit 234,kc "_law_on" 479 203 1 229 181 484 485)::(nat_lit 235,kl "_law_on" 33 234)::(nat_lit 241,kc "_law_at_tail" 487 214 2 236 181 492 493)::(nat_lit 242,kl "_law_at_tail" 34 241)::(nat_lit 248,kc "_law_tidy_one" 495 220 1 243 181 501 502)::(nat_lit 249,kl "_law_tidy_one" 35 248)::(nat_lit 255,kc "_law_tidy" 504 232 2 250 181 511 512)::(nat_lit 256,kl "_law_tidy" 36 255)::(nat_lit 262,kc "_law_whole" 514 242 1 257 181 518 519)::(nat_lit 263,kl "_law_whole" 37 262)::(nat_lit 269,kc "_law_operands" 521 244 1 264 181 526 527)::(nat_lit 270,kl "_law_operands" 38 269)::(nat_lit 276,kc "_law_shape" 529 249 2 271 181 535 536)::(nat_lit 277,kl "_law_shape" 39 276)::(nat_lit 283,kc "_law_shape_one" 538 256 2 278 181 544 545)::(nat_lit 284,kl "_law_shape_one" 40 283)::(nat_lit 290,kc "_law_alike" 547 273 2 285 181 553 554)::(nat_lit 291,kl "_law_alike" 41 290)::(nat_lit 297,kc "_law_numbered" 556 293 2 292 181 565 566)::(nat_lit 298,kl "_law_numbered" 42 297)::(nat_lit 304,kc "_law_leaving" 568 307 2 299 181 573 574)::(nat_lit 305,kl "_law_leaving" 43 304)::(nat_lit 311,kc "_law_wrapped" 576 309 3 306 181 585 586)::(nat_lit 312,kl "_law_wrapped" 44 311)::(nat_lit 318,kc "_law_tidy_stays" 588 320 1 313 181 593 594)::(nat_lit 319,kl "_law_tidy_stays" 45 318)::(nat_lit 325,kc "_law_spoilt" 596 325 1 320 181 602 603)::(nat_lit 326,kl "_law_spoilt" 46 325)::(nat_lit 330,⟨(.type "code"),none,.fields #[(.str "law" 605),(.str "law" 606),(.str "/claim/cut.py" 607),(.int 331 0),(.int 1 0),(.int 0 0),(.int 0 0),(.int 3 0),(.ref 327),(.bool true),(.int 181 0),(.ref 328),.none,.none,.none,(.ref 329),(.int 608 0),(.int 331 0),(.str "/claim/cut.py" 609)],#[]⟩)::(nat_lit 331,kl "law" 47 330)::[]
noncomputable def qH:Program:={PySem.Challenge.pw_unjump_k61_tidy_shape with main:={PySem.Challenge.pw_unjump_k61_tidy_shape.main with body:=[top 47]}}
noncomputable def lH:List Str:="ELSE"::"DONE"::"OPENERS"::"lines_of"::"line_of"::"told_within"::"form_of"::"lists_in"::"Opened"::"tidied"::"closed"::"closed_round"::"closed_part"::"has_line"::"with_other"::"cut_tails"::"renumbered"::"with_number"::"_law_cell"::"_law_mixed"::"_law_names"::"_law_operand"::"_law_deed"::"_law_closed"::"_law_goto"::"_law_opened"::"_law_closed_too"::"_law_step"::"_law_form"::"_law_has"::"_law_on"::"_law_at_tail"::"_law_tidy_one"::"_law_tidy"::"_law_whole"::"_law_operands"::"_law_shape"::"_law_shape_one"::"_law_alike"::"_law_numbered"::"_law_leaving"::"_law_wrapped"::"_law_tidy_stays"::"_law_spoilt"::[]
noncomputable def aH:List Addr:=2::3::15::16::17::23::24::30::31::37::38::44::45::51::52::65::66::72::73::79::80::81::82::83::93::94::100::101::107::108::114::115::121::122::126::127::133::134::138::139::145::146::152::153::159::160::166::167::173::174::180::181::187::188::192::193::199::200::206::207::213::214::220::221::227::228::234::235::241::242::248::249::255::256::262::263::269::270::276::277::283::284::290::291::297::298::304::305::311::312::318::319::325::326::330::331::[]
theorem eH(P:Params):aH=(KH P).map (·.1):=by kernel_rfl
theorem wS:PySem.Challenge.rw_unjump_k61_tidy_shape.wellSaid=true:=by kernel_rfl
theorem hlH:PySem.W.LeftO PySem.Challenge.pw_unjump_k61_tidy_shape qH lH (λs=>PySem.W.xlAt qH [] s&&PySem.W.recOk [] s) (PySem.W.Hook.obs (PySem.W.kHook KH aH eH)) (PySem.W.Hook.val (PySem.W.kHook KH aH eH)) 3340:=by intro w;kernel_rfl
end Hand
def tmI(x:Lean.TSyntax `term):Lean.MacroM (Lean.TSyntax `term):=do
 if x.raw.isNatLit?.isSome then return<-`(.int $x)
 if x.raw.isStrLit?.isSome then return<-`(.str $x)
 let s:=x.raw.getId.toString
 if x.raw.isIdent&&s.front=='v'&&(s.drop 1).all Char.isDigit then return<-`(.var $(Lean.Syntax.mkNumLit (s.drop 1).toString))
 return x
def rcP:Nat->Lean.Syntax->Lean.MacroM (Lean.TSyntax `rcasesPat)
 | 0,_=>Lean.Macro.throwUnsupported
 | n+1,x=>do
  if x.isOfKind `Lean.Parser.Term.anonymousCtor then
   let a<-x[1].getSepArgs.mapM fun y=>do `(Lean.Parser.Tactic.rcasesPatLo| $(<-rcP n y):rcasesPat)
   `(rcasesPat| ⟨$a,*⟩)
  else if x.isOfKind `Lean.Parser.Term.tuple then
   let a<-(#[x[1][0]]++x[1][2].getSepArgs).mapM fun y=>do `(Lean.Parser.Tactic.rcasesPatLo| $(<-rcP n y):rcasesPat)
   `(rcasesPat| ⟨$a,*⟩)
  else if x.isOfKind `Lean.Parser.Term.hole then `(rcasesPat| _)
  else if x.isIdent then `(rcasesPat| $(Lean.mkIdentFrom x x.getId):ident)
  else Lean.Macro.throwUnsupported
local macro_rules | `(tactic| let ⟨$x,*⟩:=$v)=>do `(tactic| obtain $(<-rcP 9 (<-`(⟨$x,*⟩))):rcasesPat := $v)
local macro_rules | `(⇑$X)=>`(PySem.wpAny (PySem.model ($X).prog ($X).w) ($X).A)
set_option hygiene false
local macro_rules | `(tactic| left)=>`(tactic| exact absurd h Bf9)
set_option hygiene true
abbrev VSP:=PySem.Value->PySem.Shared->Prop
abbrev PLO:=List (PySem.Addr×PySem.Obj)
local macro_rules | `(tactic| show $t)=>`(tactic| refine $t)
abbrev LS:=List PySem.Str
abbrev LW:=List PySem.Value
abbrev LQ:=List Nat
open PySem renaming Value→Ua, Shared→Ub, Addr→Uc, Program→Ud, World→Ue, Heap→Uf
def na:=@Nat.le_refl
def nb:=@if_neg
def nc:=@if_pos
def ng:=@Nat.lt_of_lt_of_le
def nh:=@Nat.le_trans
def ni:=@Nat.ne_of_lt
def nj:=@Nat.zero_le
def nk:=@Nat.ne_of_gt
def nn:=@Nat.lt_irrefl
def nw:=@Nat.le_of_lt
def ma:=@decide_eq_false
def md:=@Nat.le_succ
local macro_rules | `(↥$x)=>`(by simpa using $x)
local macro_rules | `($x⁻¹)=>`(($x).heap.objs.size)
set_option hygiene false
local macro_rules | `('v')=>`(Inv X pins σ H s)|`('c')=>`(cxC X N' scope cl' h3.objs.size fp pins {s2 with heap:=h3} (upd H2 s2⁻¹ (.lst [])))|`('f')=>`(absurd (show false=true from f) Bf9)|`('x')=>`(.of KX G _ _ _ _)
set_option hygiene true
local macro_rules | `(tactic| erw[$[$x:term],*]$[$l]?)=>`(tactic| simp only[$[$x:term],*]$[$l]?)
local macro_rules | `(tactic| ext $x:ident)=>`(tactic| unfold $x) | `(tactic| ext $h:ident $x:ident)=>`(tactic| unfold $x at $h:ident)
local macro_rules | `('d')=>`(by decide)
local macro_rules | `('s')=>`(by simp)
local macro_rules | `('o')=>`(by lia)
local macro_rules | `('k')=>`(by decide+kernel)
local macro_rules | `(tactic| symm)=>`(tactic| try walk_at "ew")
local macro_rules | `(tactic| rfl')=>`(tactic| try walk_at "ev")
local macro_rules | `(↑$x)=>`(some (.ref $x))
local macro_rules (kind:=Lean.Parser.Command.declaration) | s=>do
 unless s[0][4].getNumArgs==0&&(s[1].getKind==`Lean.Parser.Command.definition||s[1].getKind==`Lean.Parser.Command.abbrev) do Lean.Macro.throwUnsupported
 return s.setArg 0 (s[0].setArg 4 (<-`(command| noncomputable def x:=0)).raw[0][4])
local macro_rules | `(tactic| let ($x,$y,*):=$v)=>do `(tactic| obtain $(<-rcP 9 (<-`(($x,$y,*)))):rcasesPat := $v)
local macro_rules | `(($a,$b,*))=>`(⟨$a,$b,*⟩)
local macro_rules | `(#v[$a,$b])=>`(Prod.mk $a $b) | `(#v[$a,$b,$c])=>`(Prod.mk $a (Prod.mk $b $c)) | `(#v[$a,$b,$c,$d])=>`(Prod.mk $a (Prod.mk $b (Prod.mk $c $d)))
namespace L2
open PySem PySem.Spec PyProof.Rows
abbrev Key:=Sum Int Str
def Z93:Key->Ua->Bool
 | .inl k,v=>Value.isInt k v
 | .inr x,v=>Value.isStrOf x v
def keyH(w:Ue):Key->Int
 | .inl k=>hashInt k
 | .inr x=>hashStr w x
def Y8:∀{k:Key} {v:Ua},Z93 k v=true->(∃i t,k=Hr i/\v=Value.int i t)\/(∃x t,k=Sum.inr x/\v=Md x t)
 | .inl i,v,h=>by let(t,e):=Value.isInt_shape (k:=i) (v:=v) h;show .inl (i,t,rfl,e)
 | .inr x,v,h=>by let(t,e):=Value.isStrOf_shape (x:=x) (v:=v) h;show .inr (x,t,rfl,e)
def Zm0(i:Int)(t:Tok):Z93 (.inl i) (.int i t)=true:=by simp[Z93,Value.isInt]
def Zo5(x:Str)(t:Tok):Z93 (.inr x) (.str x t)=true:=by simp[Z93,Value.isStrOf]
def Ys3(a b:Int):decide ((Hr a:Key)=Hr b)=(a==b):=by
 by_cases e:a=b
 .subst e;simp
 .have h:¬(Hr a:Key)=Hr b:=λq=>e (Hr.inj q);rw[ma h];show(beq_eq_false_iff_ne.mpr e).symm
def Yr1(a b:Str):decide ((Sum.inr a:Key)=Sum.inr b)=decide (a=b):=by
 by_cases e:a=b
 .subst e;simp
 .have h:¬(Sum.inr a:Key)=Sum.inr b:=λq=>e (Sum.inr.inj q);rw[ma h,ma e]
def Yn6(a:Int)(b:Str):decide ((Hr a:Key)=Sum.inr b)=false:=ma (λq=>nomatch q)
def Yk8(a:Str)(b:Int):decide ((Sum.inr a:Key)=Hr b)=false:=ma (λq=>nomatch q)
def Yn(prog:Ud)(w:Ue):PySem.KeyKind prog w Key where
 is:=Z93
 hash:=keyH w
 inj:=λv a b g d=>by
  rcases Y8 g with⟨i,t,rfl,rfl⟩|⟨x,t,rfl,rfl⟩
  .rcases Y8 d with⟨j,u,rfl,e⟩|⟨y,u,rfl,e⟩
   .injection e with e1 _;rw[e1]
   .show nomatch e
  .rcases Y8 d with⟨j,u,rfl,e⟩|⟨y,u,rfl,e⟩
   .show nomatch e
   .injection e with e1 _;rw[e1]
 byValue:=λk v h=>by rcases Y8 h with⟨i,t,rfl,rfl⟩|⟨x,t,rfl,rfl⟩<;>rfl
 pyHash:=λc h=>by
  rcases Y8 c with⟨i,t,rfl,rfl⟩|⟨x,t,rfl,rfl⟩
  .show wpAny_pyHash_int h
  .show wpAny_pyHash_str h
 eqBool:=λf c h=>by
  rcases Y8 f with⟨i,t,rfl,rfl⟩|⟨x,t,rfl,rfl⟩
  .rcases Y8 c with⟨j,u,rfl,rfl⟩|⟨y,u,rfl,rfl⟩
   .rw[Ys3] at h;show wpAny_eqBool_int h
   .rw[Yn6] at h;show Dt.int_str i t y u _ _ _ _ h
  .rcases Y8 c with⟨j,u,rfl,rfl⟩|⟨y,u,rfl,rfl⟩
   .rw[Yk8] at h;show Dt.str_int x t j u _ _ _ _ h
   .rw[Yr1] at h;show wpAny_eqBool_str h
 «strs»:=λk x t v h=>by
  rcases Y8 h with⟨i,u,rfl,e⟩|⟨y,u,rfl,e⟩
  .show nomatch e
  .injection e with e1 _;subst e1;cases v<;>rfl
def Cj(prog:Ud)(w:Ue)(i:Int)(t:Tok):(Yn prog w).is (.inl i) (.int i t)=true:=Zm0 i t
def C8(prog:Ud)(w:Ue)(x:Str)(t:Tok):(Yn prog w).is (.inr x) (.str x t)=true:=Zo5 x t
set_option genInjectivity true in
inductive V where
 | non | bl (b:Bool) | int (i:Int) | str (x:Str) | byt (b:Array UInt8) | flt (b:UInt64) | ref (a:Uc) | ty (n:String)
 deriving DecidableEq
abbrev LV:=List V
def RelV:V->Ua->Prop
 | .non,u=>u=Lv
 | .bl b,u=>u=Value.bool b
 | .int i,u=>∃t,u=Value.int i t
 | .str x,u=>∃t,u=Md x t
 | .byt b,u=>∃t,u=Value.bytes b t
 | .flt b,u=>∃t,u=Value.float b t
 | .ref a,u=>u=Ay a
 | .ty n,u=>u=Ko n
abbrev Vals:LV->LW->Prop:=Paired RelV
def Vals.length{xs:LV}{us:LW}(r:Vals xs us):xs.length=us.length:=Paired.length r
def Vals.get:∀{xs:LV} {us:LW} {i:Nat} {x:V},Vals xs us->xs[i]?=some x->∃u,us[i]?=some u/\RelV x u
 | _,_,_,_,.nil,e=>by simp at e
 | _,_,0,_,.cons r _,e=>by simp at e;subst e;show(_,rfl,r)
 | _,_,i+1,x,.cons _ t,e=>by let(u,b,a):=Vals.get (i:=i) (x:=x) t ↥e;show(u,↥b,a)
def Vals.set{x:V}{u:Ua}(r:RelV x u):∀{xs:LV} {us:LW} (i:Nat),Vals xs us->Vals (xs.set i x) (us.set i u)
 | _,_,_,.nil=> .nil
 | _,_,0,.cons _ t=> .cons r t
 | _,_,i+1,.cons q t=> .cons q (Vals.set r i t)
def Vals.append:∀{xs ys:LV} {us a:LW},Vals xs us->Vals ys a->Vals (xs++ys) (us++a):=by
 intro xs ys us a h s;induction h with
 | nil=>show s
 | cons r t ih=>show .cons r ih
def Vals.take:∀{xs:LV} {us:LW} (n:Nat),Vals xs us->Vals (xs.take n) (us.take n)
 | _,_,0,_=> .nil
 | _,_,_+1,.nil=> .nil
 | _,_,n+1,.cons r t=> .cons r (Vals.take n t)
def Vals.drop:∀{xs:LV} {us:LW} (n:Nat),Vals xs us->Vals (xs.drop n) (us.drop n)
 | _,_,0,r=>r
 | _,_,_+1,.nil=> .nil
 | _,_,n+1,.cons _ t=>Vals.drop n t
def RelO:Option V->Option Ua->Prop
 | some v,some u=>RelV v u
 | none,none=>True
 | _,_=>False
def KV{a:Type}:List (a×V)->List (a×Ua)->Prop:=Paired fun(p:a×V) (q:a×Ua)=>p.1=q.1/\RelV p.2 q.2
def kV:Key->V
 | .inl i=> .int i
 | .inr x=> .str x
inductive HO where
 | lst (xs:LV)
 | tup (xs:LV)
 | dK (kvs:List (Key×V)) | dT (kvs:List (List Key×V))
 | set (S:Int->Bool) (n:Nat)
 | ins (C dx:Uc) (fs:List (Str×V))
 | own (x:Uc)
 | xd (fs:List (Str×V))
 | met (f x:Uc)
 | rng (lo hi:Int)
 | frz (o:Obj) (u:HO)
 | tbl (ps:Array Ua)
 | ext (φ:Uf->Prop)
abbrev Hp:=Uc->Option HO
def upd(H:Hp)(a:Uc)(o:HO):Hp:=λb=>if b=a then some o else H b
def Zf{H:Hp}{a:Uc}{o:HO}:upd H a o a=some o:=by ext upd;rw[nc rfl]
def Z7{H:Hp}{a b:Uc}{o:HO}(h:b≠a):upd H a o b=H b:=by ext upd;rw[nb h]
def Yy3{H:Hp}{a b:Uc}{o u:HO}(h:H a=some o)(h':H b=some u)(d:o≠u):a≠b:=by intro e;subst e;rw[h] at h';show d (Dw h')
def Wl{H:Hp}{a b:Uc}{o:HO}(h:H a=some o)(h':H b=none):a≠b:=by intro e;subst e;rw[h] at h';cases h'
section
variable(P:Ud)(w:Ue)
def Yw(H:Hp)(h:Uf)(a:Uc):HO->Prop
 | .lst d=>d.length<=sizeLine/\∃(c:LW) (n:Nat),Vals d c/\h.get? a=some {cls:= .type "list",data:= .seq c.toArray n}
 | .tup d=>d.length<=sizeLine/\∃c:LW,Vals d c/\IsTup h a c.toArray
 | .dK b=>b.length<=sizeLine/\(a==sysModules)=false/\∃k,KV b k/\h.DictOf (Yn P w) a k
 | .dT b=>b.length<=sizeLine/\(a==sysModules)=false/\∃d:List (List Key×Uc×Ua),
   Paired (fun(p:List Key×V) (q:List Key×Uc×Ua)=>p.1=q.1/\H q.2.1=some (.tup (p.1.map kV))/\RelV p.2 q.2.2) b d/\
   ∃o r A,h.get? a=some o/\o.ExactDict/\o.data= .dict r A/\r.toList=d.map (entryOfKey (tupleKind (Yn P w)))/\(d.map (·.1)).Nodup
 | .set S n=>h.SetOf (intKind P w) a S n
 | .ins C i g=>H i=some (.own a)/\g.length<=1000/\i≠a/\h.get? a=some (Ir C i)/\
   ∃e,h.Ns1 i e/\(∀f,RelO (g.lookup f) (e f))/\PySem.Within e (g.map (·.1))
 | .own _=>∃o,h.get? a=some o
 | .xd g=>∃e,h.Ns1 a e/\∀f,RelO (g.lookup f) (e f)
 | .rng y z=>∃t u v,h.get? a=some {cls:= .type "range",data:= .fields #[.int y t,.int z u,.int 1 v]}
 | .frz o u=>h.get? a=some o/\Yw H h a u
 | .tbl s=>h.get? a=some {cls:= .none,data:= .fields s}
 | .met f x=>h.get? a=some (PySem.W.methodObj (.ref f) (.ref x))
 | .ext j=>j h/\(∃o,h.get? a=some o)/\∀m l:Uf,j m->(∀o,m.get? a=some o->l.get? a=some o)->j l
def HOk(H:Hp)(h:Uf):Prop:=∀a o,H a=some o->Yw P w H h a o
end
section
variable{P:Ud}{w:Ue}{H H':Hp}{h h':Uf}{a:Uc}{o:HO}
def Yw.lt(x:Yw P w H h a o):a<h.objs.size:=by
 cases o with
 | lst c=>let(_,_,_,_,e):=x;show Aw e
 | tup c=>let(_,_,_,p):=x;show p.lt
 | dK b=>let(_,_,_,_,o,_,_,e,_):=x;show Aw e
 | dT b=>let(_,_,_,_,o,_,_,e,_):=x;show Aw e
 | set S n=>let(o,_,_,_,e,_):=x;show Aw e
 | ins C m d=>let(_,_,_,e,_):=x;show Aw e
 | own y=>let(_,e):=x;show Aw e
 | xd d=>let(_,(_,_,_,e,_),_):=x;show Aw e
 | rng k l=>let(_,_,_,e):=x;show Aw e
 | frz j u=>let(e,_):=x;show Aw e
 | tbl i=>show Aw (show h.get? a=some _ from x)
 | met f y=>show Aw (show h.get? a=some _ from x)
 | ext g=>let(_,(_,e),_):=x;show Aw e
def Paired.mapP{d c:Type}{F G:d->c->Prop}:∀{l₁:List d} {l₂:List c},Paired F l₁ l₂->(∀a b,F a b->G a b)->Paired G l₁ l₂:=by
 intro l₁ l₂ h f;induction h with
 | nil=>show .nil
 | cons r t ih=>show .cons (f _ _ r) ih
def Yw.stay(x:Yw P w H h a o)(k:∀b u,(b=a\/H b=some (.own a))->h.get? b=some u->h'.get? b=some u)
  (J:∀b,H b=some (.own a)->H' b=some (.own a)) (I:∀b xs,H b=some (.tup xs)->H' b=some (.tup xs)):Yw P w H' h' a o:=by
 induction o with
 | lst xs=>let(z,l,n,r,e):=x;show(z,l,n,r,k _ _ (.inl rfl) e)
 | tup xs=>let(z,l,r,g,e,c):=x;show(z,l,r,g,k _ _ (.inl rfl) e,c)
 | dK A=>let(z,y,E,r,g,i,j,e,c):=x;show(z,y,E,r,g,i,j,k _ _ (.inl rfl) e,c)
 | dT A=>let(z,y,xs,r,g,i,j,e,c):=x;show(z,y,xs,Paired.mapP r λp q z=>(z.1,I _ _ z.2.1,z.2.2),g,i,j,k _ _ (.inl rfl) e,c)
 | set S n=>let(g,i,j,t,e,c):=x;show(g,i,j,t,k _ _ (.inl rfl) e,c)
 | ins C Q K=>let(d,z,F,e,s,(m,i,j,L,c),r):=x;show(J _ d,z,F,k _ _ (.inl rfl) e,s,(m,i,j,k _ _ (.inr d) L,c),r)
 | own y=>let(g,e):=x;show(g,k _ _ (.inl rfl) e)
 | xd K=>let(s,(m,i,j,e,c),r):=x;show(s,(m,i,j,k _ _ (.inl rfl) e,c),r)
 | rng N O=>let(t,u,v,e):=x;show(t,u,v,k _ _ (.inl rfl) e)
 | frz g u G=>let(e,q):=x;show(k _ _ (.inl rfl) e,G q)
 | tbl D=>have e:h.get? a=some {cls:= .none,data:= .fields D}:=x;change h'.get? a=some {cls:= .none,data:= .fields D};show k a _ (.inl rfl) e
 | met f y=>have e:h.get? a=some (PySem.W.methodObj (.ref f) (.ref y)):=x;change h'.get? a=some (PySem.W.methodObj (.ref f) (.ref y));show k a _ (.inl rfl) e
 | ext M=>let(p,(o,e),B):=x;show(B _ _ p λo q=>k _ _ (.inl rfl) q,(o,k _ _ (.inl rfl) e),B)
def HOk.lt(x:HOk P w H h)(e:H a=some o):a<h.objs.size:=(x a o e).lt
def HOk.fresh(x:HOk P w H h)(e:h.objs.size<=a):H a=none:=by
 cases q:H a with
 | none=>rfl
 | some u=>show absurd (ng (x.lt q) e) (nn _)
def HOk.kept(x:HOk P w H h)(k:∀b u,h.get? b=some u->h'.get? b=some u):HOk P w H h':=λa o e=>
 (x a o e).stay (λb u _ q=>k b u q) (λ_ q=>q) λ_ _ q=>q
def HOk.laid(x:HOk P w H h)(k:∀b u,h.get? b=some u->h'.get? b=some u)(i:h.objs.size<=a)(d:Yw P w (upd H a o) h' a o):HOk P w (upd H a o) h':=λb u e=>by
 have f:=x.fresh i;by_cases g:b=a
 .subst g;rw[Zf] at e;cases e;show d
 .rw[Z7 g] at e;show(x b u e).stay (λc v _ q=>k c v q) (λc q=>by rw[Z7 (Wl q f)];show q) λc j q=>by rw[Z7 (Wl q f)];show q
end
def Rd(H:Hp)(a:Uc)(u:HO):Prop:=H a=some u\/∃o,H a=some (.frz o u)
def Rd.ok{P:Ud}{w:Ue}{H:Hp}{h:Uf}{a:Uc}{u:HO}(r:Rd H a u)(x:HOk P w H h):Yw P w H h a u:=by
 rcases r with r|⟨o,r⟩
 .show x a u r
 .let(_,q):=x a _ r;show q
def Mut:Option HO->Prop
 | some (.lst _)=>True
 | some (.dK _)=>True
 | some (.dT _)=>True
 | some (.set _ _)=>True
 | some (.ins _ _ _)=>True
 | some (.ext _)=>True
 | _=>False
section
variable{P:Ud}{w:Ue}{H:Hp}{h h':Uf}{x e:Uc}{o':HO}
def HOk.write(s:HOk P w H h)(i:Mut (H x))(p:e=x\/H e=some (.own x))(k:∀b u,b≠e->h.get? b=some u->h'.get? b=some u)(n:∃u,h'.get? e=some u)
  (m:Yw P w (upd H x o') h' x o'):HOk P w (upd H x o') h':=λb u q=>by
 have d:∀c y,H c=some (.own y)->c≠x:=λc y r z=>by subst z;rw[r] at i;show i
 have f:∀c g,H c=some (.tup g)->c≠x:=λc g r z=>by subst z;rw[r] at i;show i
 by_cases l:b=x
 .subst l;rw[Zf] at q;cases q;show m
 .rw[Z7 l] at q;by_cases a:b=e
  .have o:H b=some (.own x):=by
    rcases p with z|z
    .show absurd (a.trans z) l
    .rw[a];show z
   rw[q] at o;cases o;let(v,t):=n;show(v,by rw[a];show t)
  .refine(s b u q).stay (λc v j r=>k c v ?_ r) (λc r=>by rw[Z7 (d c b r)];show r) λc g r=>by rw[Z7 (f c g r)];show r
   rcases j with rfl|j
   .show a
   .rintro rfl;rcases p with z|z
    .show d c b j z
    .rw[j] at z;cases z;show l rfl
end
structure Un(fs ex:List Uc)(H H':Hp)(h h':Uf):Prop where
 keep:∀b o,h.get? b=some o->H b=none->b∉fs->b∉ex->h'.get? b=some o
 slot:∀b o,h.get? b=some o->H b=none->b∈fs->b∉ex->∃sl,h'.get? b=some {o with slots:=sl}
 free:∀b o,h.get? b=some o->H b=none->b∉ex->H' b=none
 there:∀b o,h.get? b=some o->b∉ex->∃o',h'.get? b=some o'
 tups:∀b xs,H b=some (.tup xs)->H' b=some (.tup xs)
 frzs:∀b o u,H b=some (.frz o u)->H' b=some (.frz o u)
 tbls:∀b ps,H b=some (.tbl ps)->∃more,H' b=some (.tbl (ps++more))
section
variable{fs fs' ex ex':List Uc}{H H1 H2:Hp}{h h1 h2 h':Uf}{a x e:Uc}{o:HO}
def Un.any(u:Un fs ex H H1 h h1){b:Uc}{c:Obj}(q:h.get? b=some c)(n:H b=none)(d:b∉ex):∃g,h1.get? b=some {c with slots:=g}:=by
 by_cases f:b∈fs
 .show u.slot b c q n f d
 .exact(c.slots,u.keep b c q n f d)
def Un.kept(k:∀b u,h.get? b=some u->h'.get? b=some u):Un fs ex H H h h':=
 (λb c q _ _ _=>k b c q,λb c q _ _ _=>(c.slots,k b c q),λ_ _ _ n _=>n,λb c q _=>(c,k b c q),λ_ _ q=>q,λ_ _ _ q=>q,λ_ d q=>(#[],by rw[q];simp))
def Un.refl:Un fs ex H H h h:=Un.kept λ_ _ q=>q
def Un.laid(k:∀b u,h.get? b=some u->h'.get? b=some u)(f:h.objs.size<=a)(c:H a=none):Un fs ex H (upd H a o) h h' where
 keep:=λb u q _ _ _=>k b u q
 slot:=λb u q _ _ _=>(u.slots,k b u q)
 free:=λb u q n _=>by rw[Z7 (ni (ng (Aw q) f))];show n
 there:=λb u q _=>(u,k b u q)
 tups:=λb d q=>by rw[Z7 (Wl q c)];show q
 frzs:=λb u d q=>by rw[Z7 (Wl q c)];show q
 tbls:=λb g q=>(#[],by rw[Z7 (Wl q c),q];simp)
def Un.write(d:Mut (H x))(p:e=x\/H e=some (.own x))(k:∀b u,b≠e->h.get? b=some u->h'.get? b=some u)(g:∃u,h'.get? e=some u):Un fs ex H (upd H x o) h h':=by
 have i:∀b,H b=none->b≠x:=λb n z=>by subst z;rw[n] at d;show d
 have j:∀b,H b=none->b≠e:=λb n z=>by
  subst z;rcases p with r|r
  .show i b n r
  .rw[n] at r;cases r
 have f:∀b u,H b=some u->¬Mut (some u)->b≠x:=λb u q m z=>by subst z;rw[q] at d;show m d
 show(λb u q n _ _=>k b u (j b n) q,λb u q n _ _=>(u.slots,k b u (j b n) q),λb u q n _=>by rw[Z7 (i b n)];show n,λb u q _=>?_,
  λb l q=>by rw[Z7 (f b _ q λz=>z)];show q,λb u l q=>by rw[Z7 (f b _ q λz=>z)];show q,λb s q=>(#[],by rw[Z7 (f b _ q λz=>z),q];simp))
 by_cases c:b=e
 .subst c;show g
 .exact(u,k b u c q)
end
def trk(h:Uf)(H:Hp):List Uc:=(Dn h.objs.size).filter λa=>(H a).isSome
def hidT(h:Uf)(H:Hp):Uf:=PySem.W.hideAll h (trk h H)
def Zj9(h:Uf)(H:Hp):(hidT h H).objs.size=h.objs.size:=PySem.W.hideAll_size _ _
def Zz1{h:Uf}{H:Hp}{b:Uc}{o:Obj}(e:h.get? b=some o)(n:H b=none):(hidT h H).get? b=some o:=
 PySem.W.hideAll_get _ e λa=>by have q:(H b).isSome=true:=(List.mem_filter.mp a).2;rw[n] at q;simp at q
def Y55{h:Uf}{H:Hp}{b:Uc}{o:Obj}(e:(hidT h H).get? b=some o):h.get? b=some o/\H b=none:=by
 have a:h.get? b=some o:=PySem.W.of_hideAll (trk h H) e;show(a,?_);cases q:H b with
 | none=>rfl
 | some x=>have c:b∈trk h H:=List.mem_filter.mpr (Lm.mpr (Aw a),by simp[q]);have z:(hidT h H).get? b=none:=PySem.W.hideAll_none (trk h H) c;rw[z] at e;cases e
def Yf1(g h:Uf)(L:Uc):PLO:=(Dn h.objs.size).filterMap λa=>if a=L\/(g.get? a).isSome=true then none else(h.get? a).map λo=>#v[a,o]
def rest(g h:Uf)(L d:Uc):PLO:=(Yf1 g h L).filter λp=>decide (p.1≠d)
structure Mod(K:Aa)(mg:Str->Option Ua)(base:Uf):Prop where
 kin:K.In base
 glob:base.Ns mainGlobals mg
 blt:∃mb,base.Ns builtinsNs mb/\∀x:Str,x≠"__name__"->mb x=bootBuiltins x
 nolimit:base.NoLimit
structure Cx where
 prog:Ud
 w:Ue
 K:Aa
 mg:Str->Option Ua
 base:Uf
 A:Around
 N:LS
 s₀:Ub
 H₀:Hp
 env:Env
 outer:List Env
 stack:List Env
 ex:List Uc
 fn:Str->Bool
 calm:Bool
 pn:PLO
 xe:VSP
def frs(l:List Env):List Uc:=l.filterMap (·.frame)
abbrev Cx.fs(X:Cx):List Uc:=frs X.outer
def Vis(a:Scope)(x:Str):Prop:=a.names.lookup x=some .local\/a.names.lookup x=some .cell\/a.names.lookup x=some .free
def Loc(a:Scope)(x:Str):Prop:=a.names.lookup x=some .local\/a.names.lookup x=some .cell
def Look(env:Env)(h:Uf)(m:Str->Option Ua)(x:Str)(u:Ua):Prop:=
 (env.kindOf x=some .local/\m x=some u)\/((env.kindOf x=some .cell\/env.kindOf x=some .free)/\∃c,env.cells.lookup x=some c/\h.IsCell c (some u))
structure Cx.Ok(X:Cx):Prop where
 mod:Mod X.K X.mg X.base
 kind:X.env.scope.kind= .function
 glob:X.env.globals=mainGlobals
 blt:X.env.builtins=builtinsNs
 above:X.s₀⁻¹<=X.env.locals
 inj:∀x y c,X.env.cells.lookup x=some c->X.env.cells.lookup y=some c->x=y
 has:∀x,(X.env.kindOf x=some .cell\/X.env.kindOf x=some .free)->∃c,X.env.cells.lookup x=some c
 cab:∀x c,X.fn x=true->X.env.cells.lookup x=some c->X.s₀⁻¹<=c
 hd:X.calm=true->X.A.handled=none
 frames:X.A.frames=some X.stack
 stk:X.stack=X.outer\/(X.stack=X.env::X.outer/\X.env.frame=some X.env.locals)
 exf:∀b∈X.ex,b≠X.env.locals/\∀x c,X.env.cells.lookup x=some c->c≠b
 bs:∀b o,X.base.get? b=some o->X.s₀.heap.get? b=some o/\X.H₀ b=none
 bsz:X.base.objs.size<=X.s₀⁻¹
 noex:∀b o,X.base.get? b=some o->b∉X.ex
 exfs:∀b∈X.ex,b∉X.fs
 funs:X.s₀.heap.FunFrames X.base X.outer
 frf:∀b∈X.fs,X.H₀ b=none
structure Inv(X:Cx)(pins:PLO)(σ:List (Option V))(H:Hp)(s:Ub):Prop where
 ok:X.Ok
 os:s.os=X.s₀.os
 bare:AllBare s.gens
 base:Un X.fs X.ex X.H₀ H X.s₀.heap s.heap
 loc:∃m,s.heap.Ns X.env.locals m/\∀(i:Nat) (x:Str) (v:V),X.N[i]?=some x->σ[i]?=some (some v)->Vis X.env.scope x->∃u,RelV v u/\Look X.env s.heap m x u
 cell:∀x c,X.env.cells.lookup x=some c->∃v,s.heap.IsCell c v
 free:H X.env.locals=none
 freeC:∀x c,X.env.cells.lookup x=some c->H c=none
 pin:∀p∈X.pn++pins,s.heap.get? p.1=some p.2/\H p.1=none/\p.1≠X.env.locals/\p.1∉X.fs/\∀v,p.2.data≠ .cell v
 hok:HOk X.prog X.w H s.heap
 len:σ.length=X.N.length
section
variable{X:Cx}{pins:PLO}{σ:List (Option V)}{H H':Hp}{s:Ub}{h':Uf}
def Cx.Ok.nofr(a:X.Ok){b:Uc}{o:Obj}(e:X.base.get? b=some o):b∉X.fs:=λc=>by have:=(a.funs.mem c).1;rw[e] at this;cases this
def Inv.bs(I:'v'):∀b o,X.base.get? b=some o->s.heap.get? b=some o/\H b=none:=λb o e=>
 (I.base.keep b o (I.ok.bs b o e).1 (I.ok.bs b o e).2 (I.ok.nofr e) (I.ok.noex b o e),I.base.free b o (I.ok.bs b o e).1 (I.ok.bs b o e).2 (I.ok.noex b o e))
def Inv.bk(I:'v'):∀b o,X.base.get? b=some o->s.heap.get? b=some o:=λb o e=>(I.bs b o e).1
def Inv.mod(I:'v'):Mod X.K X.mg X.base:=I.ok.mod
def Inv.kIn(I:'v'):X.K.In s.heap:=I.ok.mod.kin.keeps I.bk
def Inv.lt(I:'v'):X.env.locals<s⁻¹:=by let(_,a,_):=I.loc;show a.lt
def Inv.sz(I:'v'):X.s₀⁻¹<=s⁻¹:=nh I.ok.above (nw I.lt)
def Inv.nofs(I:'v'){a:Uc}(h:s⁻¹<=a):a∉X.fs:=λc=>by let(_,o,b,_):=I.ok.funs.mem c;show absurd (ng (Aw b) (nh I.sz h)) (nn _)
def Inv.cne(I:'v'):∀x c,X.env.cells.lookup x=some c->c≠X.env.locals:=λx c e z=>by let(v,o,d,f):=I.cell x c e;let(m,(g,h,i,a,b,_),_):=I.loc;rw[z,a] at d;cases d;rw[b] at f;cases f
def Inv.funs(I:'v'):s.heap.FunFrames X.base X.outer:=by
 have f:∀(l:List Env),(∀b∈frs l,b∈X.fs)->X.s₀.heap.FunFrames X.base l->s.heap.FunFrames X.base l:=by
  intro l;induction l with
  | nil=>intro _ _;trivial
  | cons q r h=>intro g m;let(n,(L,o,a,k,j,p),i):=m;have d:L∈X.fs:=g L (by ext frs;rw[Du,a];show Ad);let(t,e):=I.base.slot L o j (I.ok.frf L d) d λz=>I.ok.exfs L z d;show(n,(L,_,a,k,e,p),h (λb c=>g b (by ext frs;rw[Du,a];show Ae _ c)) i)
 show f X.outer (λ_ c=>c) I.ok.funs
def Inv.stack(I:'v'):s.heap.FunFrames X.base X.stack:=by
 rcases I.ok.stk with e|⟨e,hf⟩
 .rw[e];show I.funs
 .rw[e];let(m,a,_):=I.loc;show .cons (by rw[I.ok.kind];decide) hf a ?_ I.funs;show Heap.get?_none_of_le (nh I.ok.bsz I.ok.above)
def Inv.stkSub(I:'v'):∀b∈frs X.stack,b∈X.env.locals::X.fs:=λb a=>by
 rcases I.ok.stk with e|⟨e,hf⟩
 .rw[e] at a;show Ae _ a
 .rw[e] at a;ext a frs;rw[Du,hf] at a;show a
def Inv.stkFree(I:'v'):∀b∈frs X.stack,H b=none:=λb a=>by
 rcases Ab.mp (I.stkSub b a) with e|a
 .rw[e];show I.free
 .let(_,o,c,_):=I.ok.funs.mem a;show I.base.free b o c (I.ok.frf b a) λz=>I.ok.exfs b z a
def Inv.step{g':Array GenState}{t':Nat}{d':Drawn}{ch:List Uc}(I:'v')
  (j:∀b∈ch,(b∈X.ex\/X.s₀⁻¹<=b)/\b≠X.env.locals/\(∀x c,X.env.cells.lookup x=some c->c≠b)/\∀p∈X.pn++pins,p.1≠b)
  (h:∀b o,b≠X.env.locals->b∉X.fs->b∉ch->s.heap.get? b=some o->H b=none->h'.get? b=some o)
  (C:∀b o,b≠X.env.locals->b∈X.fs->b∉ch->s.heap.get? b=some o->H b=none->∃R,h'.get? b=some {o with slots:=R}) (f:∀b o,b∉ch->s.heap.get? b=some o->H b=none->H' b=none)
  (D:∀b o,b∉ch->s.heap.get? b=some o->∃K,h'.get? b=some K)
  (G:∀b B,H b=some (.tup B)->H' b=some (.tup B)) (N:∀b o u,H b=some (.frz o u)->H' b=some (.frz o u)) (J:∀b P,H b=some (.tbl P)->∃M,H' b=some (.tbl (P++M)))
  (Z:∀m,s.heap.Ns X.env.locals m->h'.Ns X.env.locals m) (S:HOk X.prog X.w H' h') (hg:AllBare g'):
  Inv X pins σ H' {s with heap:=h',gens:=g',drawn:=d',toks:=t'}:=by
 have L:∀b o,X.s₀.heap.get? b=some o->b≠X.env.locals:=λb o e=>ni (ng (Aw e) I.ok.above);have y:∀b o,X.s₀.heap.get? b=some o->b∉X.ex->b∉ch:=λb o e a E=>by
  rcases(j b E).1 with z|z
  .show a z
  .show absurd (ng (Aw e) z) (nn _)
 have t:∀x c,X.env.cells.lookup x=some c->∀v,s.heap.IsCell c v->h'.IsCell c v:=λx c e v zy1=>by
  let(o,F,T):=zy1;have g:c∉ch:=λz=>(j c z).2.2.1 x c e rfl;by_cases Y:c∈X.fs
  .let(R,q):=C c o (I.cne x c e) Y g F (I.freeC x c e);show(_,q,T)
  .exact(o,h c o (I.cne x c e) Y g F (I.freeC x c e),T)
 show(I.ok,I.os,hg,(λb o e n E a=>?_,λb o e n E a=>?_,λb o e n a=>?_,λb o e a=>?_,λb B e=>G b B (I.base.tups b B e),λb o B e=>N b o B (I.base.frzs b o B e),λb P e=>?_),?_,λx c e=>?_,?_,λx c e=>?_,λp W=>?_,S,I.len)
 .show h b o (L b o e) E (y b o e a) (I.base.keep b o e n E a) (I.base.free b o e n a)
 .let(R,A):=I.base.slot b o e n E a;let(Q,O):=C b _ (L b o e) E (y b o e a) A (I.base.free b o e n a);show(Q,O)
 .let(K,A):=I.base.there b o e a;show f b K (y b o e a) A (I.base.free b o e n a)
 .let(K,A):=I.base.there b o e a;show D b K (y b o e a) A
 .let(m1,A):=I.base.tbls b P e;let(m2,O):=J b _ A;show(m1++m2,by rw[O,Array.append_assoc])
 .let(m,hn,hl):=I.loc;show(m,Z m hn,λi x v A O e3=>?_);let(u,r,l):=hl i x v A O e3;show(u,r,?_);rcases l with l|⟨k,c,e,z⟩
  .show .inl l
  .show .inr (k,c,e,t x c e _ z)
 .let(v,z):=I.cell x c e;show(v,t x c e v z)
 .let(m,(o,_,_,F,_),_):=I.loc;show f _ o (λz=>(j _ z).2.1 rfl) F I.free
 .let(v,o,F,T):=I.cell x c e;show f c o (λz=>(j c z).2.2.1 x c e rfl) F (I.freeC x c e)
 .let(e,n,V,U,d):=I.pin p W;have g:p.1∉ch:=λz=>(j p.1 z).2.2.2 p W rfl;show(h p.1 p.2 V U g e n,f p.1 p.2 g e n,V,U,d)
def Inv.un{t':Nat}(I:'v')(u:Un X.fs [] H H' s.heap h')(c:HOk X.prog X.w H' h'):Inv X pins σ H' {s with heap:=h',toks:=t'}:=by
 let(m,(o,t,v,h,r),_):=id I.loc;let(l,k):=u.any h I.free 's';show I.step (g':=s.gens) (d':=s.drawn) (ch:=[]) (λ_ z=>nomatch z) (λb o _ d _ e n=>u.keep b o e n d 's') (λb o _ d _ e n=>u.slot b o e n d 's') (λb o _ e n=>u.free b o e n 's') (λb o _ e=>u.there b o e 's') u.tups u.frzs u.tbls (λq j=>by
  let(p,f,g,a,i):=j;rw[h] at a;cases a;show(_,f,g,k,i)) c I.bare
def Inv.call{g':Array GenState}{t':Nat}{d':Drawn}{ch:List Uc}(I:'v')(u:Un (frs X.stack) ch H H' s.heap h')(g:HOk X.prog X.w H' h')(t:AllBare g')
  (f:∀b∈ch,(b∈X.ex\/X.s₀⁻¹<=b)/\b≠X.env.locals/\(∀x c,X.env.cells.lookup x=some c->c≠b)/\∀p∈X.pn++pins,p.1≠b):
  Inv X pins σ H' {s with heap:=h',gens:=g',drawn:=d',toks:=t'}:=by
 let(m,(o,C,D,k,r),_):=id I.loc;let(y,h):=u.any k I.free λz=>(f _ z).2.1 rfl;show I.step (ch:=ch) f (λb o h v a e n=>u.keep b o e n (λz=>(Ab.mp (I.stkSub b z)).elim h v) a) (λb o _ _ a e n=>u.any e n a) (λb o a e n=>u.free b o e n a) (λb o a e=>u.there b o e a) u.tups u.frzs u.tbls (λB q=>by
  let(A,i,j,d,l):=q;rw[k] at d;cases d;show(_,i,j,h,l)) g t
def Inv.turned{t':Nat}{it:Uc}(I:'v')(k:∀b o,b≠it->s.heap.get? b=some o->h'.get? b=some o)(h:H it=none)(f:it≠X.env.locals)
  (w:it∈X.ex\/X.s₀⁻¹<=it) (t:∀x c,X.env.cells.lookup x=some c->c≠it) (l:∀p∈X.pn++pins,p.1≠it):Inv X pins σ H {s with heap:=h',toks:=t'}:=by
 have d:∀b u,H b=some u->b≠it:=λb u e z=>by rw[z,h] at e;cases e
 show I.step (g':=s.gens) (d':=s.drawn) (ch:=[it]) (λb j=>?_) (λb o _ _ a e _=>k b o (λz=>a (by simp[z])) e) (λb o _ _ a e _=>(o.slots,k b o (λz=>a (by simp[z])) e)) (λ_ _ _ _ n=>n)
  (λb o a e=>(o,k b o (λz=>a (by simp[z])) e)) (λ_ _ e=>e) (λ_ _ _ e=>e) (λb B e=>(#[],by rw[e];simp)) (λm i=>?_) (λb u e=>?_) I.bare
 .have e:b=it:=by simpa using j
  subst e;show(w,f,t,l)
 .let(o,y,A,g,r):=i;show(o,y,A,k _ o (Av f) g,r)
 .refine(I.hok b u e).stay (λc v a q=>k c v ?_ q) (λ_ q=>q) λ_ _ q=>q;rcases a with z|z
  .rw[z];show d b u e
  .show d c _ z
def Inv.tok(I:'v')(t:Nat):Inv X pins σ H {s with toks:=t}:=I.un (h':=s.heap) (t':=t) Un.refl I.hok
def Inv.kept{t':Nat}(I:'v')(k:∀b u,s.heap.get? b=some u->h'.get? b=some u):Inv X pins σ H {s with heap:=h',toks:=t'}:=I.un (Un.kept k) (I.hok.kept k)
def Inv.laid{a:Uc}{o:HO}{t':Nat}(I:'v')(k:∀b u,s.heap.get? b=some u->h'.get? b=some u)(d:s⁻¹<=a)(c:Yw X.prog X.w (upd H a o) h' a o):
  Inv X pins σ (upd H a o) {s with heap:=h',toks:=t'}:=I.un (Un.laid k d (I.hok.fresh d)) (I.hok.laid k d c)
def Inv.write{x e:Uc}{o:HO}{t':Nat}(I:'v')(d:Mut (H x))(f:e=x\/H e=some (.own x))(k:∀b u,b≠e->s.heap.get? b=some u->h'.get? b=some u)(a:∃u,h'.get? e=some u)
  (c:Yw X.prog X.w (upd H x o) h' x o):Inv X pins σ (upd H x o) {s with heap:=h',toks:=t'}:=I.un (Un.write d f k a) (I.hok.write d f k a c)
def Inv.pins_of{a:PLO}(I:'v')(h:∀p∈a,s.heap.get? p.1=some p.2/\H p.1=none/\p.1≠X.env.locals/\p.1∉X.fs/\∀v,p.2.data≠ .cell v):Inv X a σ H s:=
 (I.ok,I.os,I.bare,I.base,I.loc,I.cell,I.free,I.freeC,λp b=>(Am.mp b).elim (λz=>I.pin p (Bs _ z)) (h p),I.hok,I.len)
def Z00{N:LS}(c:N.Nodup){i j:Nat}{x:Str}(a:N[i]?=some x)(b:N[j]?=some x):i=j:=by let(g,e):=Ai.mp a;let(f,d):=Ai.mp b;show(List.getElem_inj c).mp (e.trans d.symm)
def Gi{M:Model}{A:Around}{E:VSP}{i:Nat}{x:Str}{v:V}{u:Ua}{Q:Unit->Ub->Prop}(I:'v')(hN:X.N.Nodup)(hi:X.N[i]?=some x)(hx:Loc X.env.scope x)(r:RelV v u)
  (h:∀s',Inv X pins (σ.set i (some v)) H s'->(∃a,Me a s.heap s'.heap/\(a=X.env.locals\/X.env.cells.lookup x=some a))->Q () s') (hf:X.fn x=true\/X.env.scope.names.lookup x=some .local:=by first | show .inl rfl | show .inr rfl | assumption):wpAny M A (storeName X.env x u) Q E s:=by
 let(m,hn,hl):=id I.loc;have hcls:(X.env.scope.kind== .class || (X.env.scope.kind== .module&&X.env.locals !=X.env.globals))=false:=by rw[I.ok.kind];rfl
 have hiσ:i<σ.length:=by rw[I.len];show(Ai.mp hi).1
 have cne:=I.cne;have tracked:∀{a:Uc} {h':Uf},(∃o,s.heap.get? a=some o/\H a=none)->Me a s.heap h'->HOk X.prog X.w H h':=fun{a h'} ha hs b ob e=>by
  let(_,_,hfree):=ha;show(I.hok b ob e).stay (λc w' hc q=>(hs.2 c ?_).trans q) (λ_ q=>q) λ_ _ q=>q;rintro rfl;rcases hc with rfl|hc
  .rw[hfree] at e;cases e
  .rw[hfree] at hc;cases hc
 rcases hx with hk|hk
 .refine wpAny_storeName_local hk hn (λh' hn' hs=>?_) hcls;let(oL,_,_,hoL,_):=id hn;show h _ (I.ok,I.os,I.bare,(λb o e n hb hx=>?_,λb o e n hb hx=>?_,I.base.free,λb o e hx=>?_,I.base.tups,I.base.frzs,I.base.tbls),(_,hn',λj y v' e1 e2 e3=>?_),λy c e=>?_,I.free,I.freeC,λp hp=>?_,tracked (oL,hoL,I.free) hs,↥I.len) (_,hs,.inl rfl)
  .exact(hs.2 b (ni (ng (Aw e) I.ok.above))).trans (I.base.keep b o e n hb hx)
  .let(sl,e1):=I.base.slot b o e n hb hx;show(sl,(hs.2 b (ni (ng (Aw e) I.ok.above))).trans e1)
  .let(o',e1):=I.base.there b o e hx;show(o',(hs.2 b (ni (ng (Aw e) I.ok.above))).trans e1)
  .by_cases hj:j=i
   .subst hj;rw[hi] at e1;cases e1;rw[Ex hiσ] at e2;cases e2;show(u,r,.inl (hk,by simp))
   .rw[Dq (Av hj)] at e2;let(u',r',q):=hl j y v' e1 e2 e3;show(u',r',?_);rcases q with⟨k,e⟩|⟨k,c,e,z⟩
    .refine .inl (k,?_);have:y≠x:=λe=>hj (Z00 hN e1 (e ▸ hi));simp[this,e]
    .show .inr (k,c,e,z.sameBut hs (cne y c e))
  .let(w',z):=I.cell y c e;show(w',z.sameBut hs (cne y c e))
  .let(e,n,ne,nf,d):=I.pin p hp;show((hs.2 p.1 ne).trans e,n,ne,nf,d)
 .have hfn:X.fn x=true:=by
   rcases hf with z|z
   .show z
   .rw[z] at hk;cases hk
  let(c,hc):=I.ok.has x (.inl hk);let(w',z):=I.cell x c hc;show wpAny_storeName_cell I.ok.kind hk hc z (λh' hc' hs=>?_);let(oc,hoc,hocd):=id z;show h {s with heap:=h'} (I.ok,I.os,I.bare,(λb o e n hb hx=>?_,λb o e n hb hx=>?_,I.base.free,λb o e hx=>?_,I.base.tups,I.base.frzs,I.base.tbls),(m,hn.sameBut hs (Av (cne x c hc)),λj y v' e1 e2 e3=>?_),λy c' e=>?_,I.free,I.freeC,λp hp=>?_,tracked (oc,hoc,I.freeC x c hc) hs,↥I.len) (c,hs,.inr hc)
  .exact(hs.2 b (ni (ng (Aw e) (I.ok.cab x c hfn hc)))).trans (I.base.keep b o e n hb hx)
  .let(sl,e1):=I.base.slot b o e n hb hx;show(sl,(hs.2 b (ni (ng (Aw e) (I.ok.cab x c hfn hc)))).trans e1)
  .let(o',e1):=I.base.there b o e hx;show(o',(hs.2 b (ni (ng (Aw e) (I.ok.cab x c hfn hc)))).trans e1)
  .by_cases hj:j=i
   .subst hj;rw[hi] at e1;cases e1;rw[Ex hiσ] at e2;cases e2;show(u,r,.inr (.inl hk,c,hc,hc'))
   .rw[Dq (Av hj)] at e2;let(u',r',q):=hl j y v' e1 e2 e3;show(u',r',?_);rcases q with q|⟨k,c',e,z'⟩
    .show .inl q
    .refine .inr (k,c',e,z'.sameBut hs ?_);rintro rfl;show hj (Z00 hN e1 (I.ok.inj _ _ _ e hc ▸ hi))
  .by_cases hcc:c'=c
   .subst hcc;show(_,hc')
   .let(w2,z2):=I.cell y c' e;show(w2,z2.sameBut hs hcc)
  .let(e,n,ne,nf,d):=I.pin p hp;show((hs.2 p.1 ?_).trans e,n,ne,nf,d);intro q;rw[q,hoc] at e;have q':oc=p.2:=Dw e;show d w' (by rw[<-q'];show hocd)
def Zu1{M:Model}{A:Around}{E:VSP}{i:Nat}{x:Str}{v:V}{u:Ua}{Q:Unit->Ub->Prop}(I:'v')(c:X.N.Nodup)(hi:X.N[i]?=some x)(a:Loc X.env.scope x)(r:RelV v u)
  (h:∀s',Inv X pins (σ.set i (some v)) H s'->Q () s') (b:X.fn x=true\/X.env.scope.names.lookup x=some .local:=by first | show .inl rfl | show .inr rfl | assumption):wpAny M A (storeName X.env x u) Q E s:=
 Gi I c hi a r (λs' d _=>h s' d) b
def Inv.call'{s':Ub}{ch:List Uc}(I:'v')(h:s'.os=s.os)(u:Un (frs X.stack) ch H H' s.heap s'.heap)(a:HOk X.prog X.w H' s'.heap)(i:AllBare s'.gens)
  (d:∀b∈ch,(b∈X.ex\/X.s₀⁻¹<=b)/\b≠X.env.locals/\(∀x c,X.env.cells.lookup x=some c->c≠b)/\∀p∈X.pn++pins,p.1≠b):Inv X pins σ H' s':=by
 let(h',j,k,f,g):=s';have e:g=s.os:=h;subst e;show I.call (g':=j) (t':=f) (d':=k) u a i d
end
abbrev XK:=Ua->Option Uc->Hp->Prop
abbrev St:=List (Option V)
abbrev VK:=V->Hp->Prop
abbrev TE:=St->Hp->VK->Prop
abbrev TT:=St->Hp->(Bool->Hp->Prop)->Prop
abbrev TA:=St->Hp->(LV->Hp->Prop)->Prop
structure Ends where
 nx:St->Hp->Prop
 rt:VK
 bk:St->Hp->Prop:=λ_ _=>False
 ct:St->Hp->Prop:=λ_ _=>False
abbrev TS:=Ends->St->Hp->Prop
def EP(X:Cx)(pins:PLO)(b:St)(Q:VK)(u:Ua)(s':Ub):Prop:=∃v a,Inv X pins b a s'/\RelV v u/\Q v a
def TP(X:Cx)(pins:PLO)(c:St)(Q:Bool->Hp->Prop)(b:Bool)(s':Ub):Prop:=∃a,Inv X pins c a s'/\Q b a
def AP(X:Cx)(pins:PLO)(c:St)(Q:LV->Hp->Prop)(us:LW)(s':Ub):Prop:=∃a b,Inv X pins c b s'/\Vals a us/\Q a b
def SP(X:Cx)(pins:PLO)(D:Ends)(f:Flow)(s':Ub):Prop:=
 match f with
 | .next=>∃a b,Inv X pins a b s'/\D.nx a b
 | .brk=>∃a b,Inv X pins a b s'/\D.bk a b
 | .cont=>∃a b,Inv X pins a b s'/\D.ct a b
 | .ret u=>∃v a b,Inv X pins a b s'/\RelV v u/\D.rt v b
def PE(X:Cx)(e:Expr)(t:TE):Prop:=
 ∀(a:PLO) (s:Ub) (b:St) (H:Hp) (Q:VK),Inv X a b H s->t b H Q->⇑X (eval e X.env) (EP X a b Q) X.xe s
def PT(X:Cx)(e:Expr)(t:TT):Prop:=
 ∀(a:PLO) (s:Ub) (b:St) (H:Hp) (Q:Bool->Hp->Prop),Inv X a b H s->t b H Q->⇑X (isTrue e X.env (eval e X.env)) (TP X a b Q) X.xe s
def PW(X:Cx)(e:Expr)(t:TT):Prop:=
 ∀(b:Sem Ua) (a:PLO) (s:Ub) (c:St) (H:Hp) (Q:Bool->Hp->Prop),Inv X a c H s->t c H Q->⇑X (isTrue e X.env b) (TP X a c Q) X.xe s
def PW.pt{X:Cx}{e:Expr}{t:TT}(h:PW X e t):PT X e t:=h _
def PA(X:Cx)(es:List Expr)(t:TA):Prop:=
 ∀(c:Pos) (a:PLO) (s:Ub) (b:St) (H:Hp) (Q:LV->Hp->Prop),Inv X a b H s->t b H Q->⇑X (spliced (backTo c (starEach es X.env))) (AP X a b Q) X.xe s
def PS(X:Cx)(st:Stmt)(t:TS):Prop:=
 ∀(a:PLO) (s:Ub) (b:St) (H:Hp) (D:Ends),Inv X a b H s->t D b H->⇑X (exec st X.env) (SP X a D) X.xe s
def PSs(X:Cx)(st:List Stmt)(t:TS):Prop:=
 ∀(a:PLO) (s:Ub) (b:St) (H:Hp) (D:Ends),Inv X a b H s->t D b H->⇑X (execs st X.env) (SP X a D) X.xe s
def thn{b:Type}{t:Sem b}{Q c:b->Ub->Prop}{M:Model}{A:Around}{E:VSP}{s:Ub}(h:wpAny M A t Q E s)(d:∀a s,Q a s->c a s):wpAny M A t c E s:=Hi h d λ_ _ x=>x
section
variable{X:Cx}
def bin{a b:Expr}{m l:TE}(B:PE X a m)(z:PE X b l){pins:PLO}{s:Ub}{c:St}{H:Hp}{R:V->V->Hp->Prop}(I:Inv X pins c H s)(h:m c H λx j=>l c j λy d=>R x y d)
  {k:Type} {Q:k->Ub->Prop} {f:Ua->Ua->Sem k}
  (t:∀v u i x y d,Inv X pins c d i->RelV x v->RelV y u->R x y d->⇑X (f v u) Q X.xe i):
  ⇑X (eval a X.env) (λv g=>⇑X (eval b X.env) (λu e=>⇑X (f v u) Q X.xe e) X.xe g) X.xe s:=by
 show thn (B pins s c H _ I h) λv n zz=>?_;let(x,j,D,p,r):=zz;show thn (z pins n c j _ D r) λu i zz=>?_;let(y,d,C,o,q):=zz;show t v u i x y d C p o q
def tVar(i:Nat):TE:=λa H Q=>∃v,a[i]?=some (some v)/\Q v H
def tC(v:V):TE:=λ_ H Q=>Q v H
def Gw{i:Nat}{x:Str}{pos:Pos}(t:X.N[i]?=some x)(n:Vis X.env.scope x)(hd:(x==("__debug__":Str))=false:=by decide)(g:(x==("__classdict__":Str))=false:=by decide):PE X (.Name x pos) (tVar i):=by
 intro f s k H Q I h;let(v,e,h):=h;let(m,o,q):=I.loc;let(u,r,l):=q i x v t e n;have d:EP X f k Q u s:=(v,H,I,r,h);rcases l with⟨b,p⟩|⟨b,c,j,a⟩
 .show wpAny_Name (wpAny_loadName_local I.ok.kind b o p d) hd
 .rcases b with b|b
  .show wpAny_Name (wpAny_loadName_cell I.ok.kind b j a d) hd
  .show wpAny_Name (wpAny_loadName_free I.ok.kind b j a d g) hd
def Ym2{i j pos}:PE X (.Constant (.int i) j pos) (tC (.int i)):=λ_ _ _ H _ I h=>wpAny_Constant_int (.int i,H,I.tok _,(_,rfl),h)
def Yj6{b j pos}:PE X (.Constant (.bool b) j pos) (tC (.bl b)):=λ_ _ _ H _ I h=>Constant_bool (.bl b,H,I,rfl,h)
def Yl1{j pos}:PE X (.Constant .none j pos) (tC .non):=λ_ _ _ H _ I h=>Constant_none (.non,H,I,rfl,h)
def Yo6{x j pos}:PE X (.Constant (.str x) j pos) (tC (.str x)):=λ_ _ _ H _ I h=>Calls.Constant_str (.str x,H,I.tok _,(_,rfl),h)
def Gl(X:Cx)(x:Str):Prop:=X.env.kindOf x=some .globalImplicit
def Jh{E:VSP}{pins:PLO}{s:Ub}{a:St}{H:Hp}{x:Str}{u:Ua}{pos:Pos}{Q:VSP}(I:Inv X pins a H s)(c:Gl X x)(b:X.mg x=some u)(h:Q u s)
  (hd:(x==("__debug__":Str))=false:=by decide):⇑X (eval (.Name x pos) X.env) Q E s:=
 Calls.Name_function_global I.ok.kind c (Calls.loadGlobal_global (by rw[I.ok.glob];show I.mod.glob.keeps I.bk) b h) hd
def Ee{E:VSP}{pins:PLO}{s:Ub}{a:St}{H:Hp}{x:Str}{u:Ua}{pos:Pos}{Q:VSP}(I:Inv X pins a H s)(e:Gl X x)(d:X.mg x=none)(b:bootBuiltins x=some u)(h:Q u s)
  (c:x≠"__name__":=by decide) (f:(x==("__debug__":Str))=false:=by decide):⇑X (eval (.Name x pos) X.env) Q E s:=by
 let(j,i,g):=I.mod.blt;show Calls.Name_function_global I.ok.kind e (Calls.loadGlobal_builtin (by rw[I.ok.glob];show I.mod.glob.keeps I.bk) d (by rw[I.ok.blt];show i.keeps I.bk) ((g x c).trans b) h) f
def Yf2{x:Str}{v:V}{u:Ua}{pos:Pos}(b:Gl X x)(a:X.mg x=some u)(r:RelV v u)(hd:(x==("__debug__":Str))=false:=by decide):PE X (.Name x pos) (tC v):=
 λ_ _ _ H _ I h=>Jh I b a (v,H,I,r,h) hd
def Y43{x:Str}{v:V}{u:Ua}{pos:Pos}(d:Gl X x)(c:X.mg x=none)(a:bootBuiltins x=some u)(r:RelV v u)(b:x≠"__name__":=by decide)(e:(x==("__debug__":Str))=false:=by decide):PE X (.Name x pos) (tC v):=
 λ_ _ _ H _ I h=>Ee I d c a (v,H,I,r,h) b e
variable{a b:Expr}{ta tb:TE}{pos:Pos}
def tB(t:TE):TT:=λd H Q=>t d H λx e=>∃c,x= .bl c/\Q c e
variable{tA tB':TT}{rest:List Expr}
def tAnd(t u:TT):TT:=λd H Q=>t d H λc e=>if c=true then u d e Q else Q false e
def tOr(t u:TT):TT:=λd H Q=>t d H λc e=>if c=true then Q true e else u d e Q
def tNot(t:TT):TT:=λd H Q=>t d H λc e=>Q (!c) e
def Ya6(g:PT X a tA):PW X (.BoolOp .And [a] pos) tA:=by
 intro i d s f H Q I h;show isTrue_and (thn (g d s f H Q I h) λc j e=>?_);cases c with
 | true=>show isTrue_and_nil e
 | false=>show e
def Ys7(g:PT X a tA):PW X (.BoolOp .Or [a] pos) tA:=by
 intro i d s f H Q I h;show isTrue_or (thn (g d s f H Q I h) λc j e=>?_);cases c with
 | false=>show isTrue_or_nil e
 | true=>show e
def Ym8(m:PT X a tA)(l:PW X (.BoolOp .And (b::rest) pos) tB'):PW X (.BoolOp .And (a::b::rest) pos) (tAnd tA tB'):=by
 intro j d s e H Q I h;show isTrue_and (thn (m d s e H _ I h) λc k zz=>?_);let(i,g,f):=zz;cases c with
 | true=>show l j d k e i Q g f
 | false=>show(i,g,f)
def Yz0(m:PT X a tA)(l:PW X (.BoolOp .Or (b::rest) pos) tB'):PW X (.BoolOp .Or (a::b::rest) pos) (tOr tA tB'):=by
 intro j d s e H Q I h;show isTrue_or (thn (m d s e H _ I h) λc k zz=>?_);let(i,g,f):=zz;cases c with
 | true=>show(i,g,f)
 | false=>show l j d k e i Q g f
def Yn2(f:PT X a tA):PT X (.UnaryOp .Not a pos) (tNot tA):=by intro d s e H Q I h;show isTrue_not (f d s e H (λc g=>Q (!c) g) I h)
def Yo4{op}{t:TE}(h:PE X a t):PE X (.BoolOp op [a] pos) t:=λc s d H Q I e=>BoolOp_one (h c s d H Q I e)
def tIf(t:TT)(ta tb:TE):TE:=λd H Q=>t d H λc e=>if c=true then ta d e Q else tb d e Q
def Zv0{c:Expr}(l:PT X c tA)(n:PE X a ta)(m:PE X b tb):PE X (.IfExp c a b pos) (tIf tA ta tb):=by
 intro e s f H Q I h;show wpAny_IfExp (thn (l e s f H _ I h) λd g zz=>?_);let(k,j,i):=zz;cases d with
 | true=>show n e g f k Q j i
 | false=>show m e g f k Q j i
end
def SqL(K:Aa)(H:Hp)(a:Uc)(xs:LV):Prop:=
 Rd H a (.lst xs)\/
  ∃(o:Obj) (b:Array Ua) (n:Nat),K.lookup a=some o/\o.cls= .type "list"/\o.dict=none/\o.data= .seq b n/\b.size<=sizeLine/\Vals xs b.toList
def SqT(K:Aa)(H:Hp)(a:Uc)(xs:LV):Prop:=
 Rd H a (.tup xs)\/
  ∃(o:Obj) (b:Array Ua) (n:Nat),K.lookup a=some o/\o.cls= .type "tuple"/\o.data= .seq b n/\b.size<=sizeLine/\Vals xs b.toList
def absV:Ua->Option V
 | .none=>some .non
 | .bool b=>some (.bl b)
 | .int i _=>some (.int i)
 | .str x _=>some (.str x)
 | .bytes b _=>some (.byt b)
 | .float b _=>some (.flt b)
 | .ref a=>↑a
 | .type n=>some (.ty n)
 | _=>none
def RelV.abs{x:V}{u:Ua}(r:RelV x u):absV u=some x:=by
 cases x with
 | non=>cases r;rfl
 | bl _=>cases r;rfl
 | int _=>let(t,rfl):=r;rfl
 | str _=>let(t,rfl):=r;rfl
 | byt _=>let(t,rfl):=r;rfl
 | flt _=>let(t,rfl):=r;rfl
 | ref _=>cases r;rfl
 | ty _=>cases r;rfl
def RelV.inj{x y:V}{u:Ua}(r:RelV x u)(q:RelV y u):x=y:=Dw (r.abs.symm.trans q.abs)
def Vals.inj:∀{xs ys:LV} {us:LW},Vals xs us->Vals ys us->xs=ys:=by
 intro xs ys us h;induction h generalizing ys with
 | nil=>intro g;cases g;rfl
 | cons r t ih=>
  intro g;cases g with
  | cons b a=>rw[r.inj b,ih a]
section
variable{X:Cx}{pins:PLO}{σ:St}{H:Hp}{s:Ub}{a:Uc}{xs ys:LV}
def SqT.of{K:Aa}(h:H a=some (.tup xs)):SqT K H a xs:= .inl (.inl h)
def Inv.list(I:'v')(h:SqL X.K H a xs):∃its:LW,Vals xs its/\PlainL s.heap a its.toArray/\xs.length<=sizeLine:=by
 rcases h with h|⟨o,its,n,hk,hc,hd,hs,hz,r⟩
 .let(z,its,n,r,e):=h.ok I.hok;show(its,r,(_,n,e,rfl,rfl,rfl),z)
 .refine(its.toList,r,(o,n,I.kIn a o hk,hc,hd,↥hs),?_);have e:=r.length;erw[Kz] at e;lia
def Inv.tuple(I:'v')(h:SqT X.K H a xs):∃its:LW,Vals xs its/\IsTup s.heap a its.toArray/\xs.length<=sizeLine:=by
 rcases h with h|⟨o,its,n,hk,hc,hs,hz,r⟩
 .let(z,its,r,p):=h.ok I.hok;show(its,r,p,z)
 .refine(its.toList,r,(o,I.kIn a o hk,hc,n,↥hs),?_);have e:=r.length;erw[Kz] at e;lia
def Inv.list_inj(I:'v')(h:SqL X.K H a xs)(h':SqL X.K H a ys):xs=ys:=by
 let(c,r,(o,n,e,_,_,d),_):=I.list h;let(b,i,(j,k,f,_,_,g),_):=I.list h';rw[e] at f;cases f;rw[d] at g;injection g with d1 _;have:c=b:=by simpa using congrArg Array.toList d1
 subst this;show r.inj i
def Inv.tuple_inj(I:'v')(h:SqT X.K H a xs)(h':SqT X.K H a ys):xs=ys:=by
 let(c,r,(o,e,_,n,d),_):=I.tuple h;let(b,i,(j,f,_,k,g),_):=I.tuple h';rw[e] at f;cases f;rw[d] at g;injection g with d1 _;have:c=b:=by simpa using congrArg Array.toList d1
 subst this;show r.inj i
end
abbrev Cx.wish(X:Cx)(E:VSP):Cx:={X with xe:=E}
abbrev Cx.nox(X:Cx):Cx:=X.wish λ_ _=>False
def Cx.Ok.wish{X:Cx}(a:X.Ok)(E:VSP):(X.wish E).Ok:=
 (a.mod,a.kind,a.glob,a.blt,a.above,a.inj,a.has,a.cab,a.hd,a.frames,a.stk,a.exf,a.bs,a.bsz,a.noex,a.exfs,a.funs,a.frf)
def Cx.Ok.unwish{X:Cx}{E:VSP}(a:(X.wish E).Ok):X.Ok:=
 (a.mod,a.kind,a.glob,a.blt,a.above,a.inj,a.has,a.cab,a.hd,a.frames,a.stk,a.exf,a.bs,a.bsz,a.noex,a.exfs,a.funs,a.frf)
section
variable{X:Cx}{pins:PLO}{σ:St}{H:Hp}{s:Ub}{E:VSP}
def Inv.wish(I:'v')(E:VSP):Inv (X.wish E) pins σ H s:=(I.ok.wish E,I.os,I.bare,I.base,I.loc,I.cell,I.free,I.freeC,I.pin,I.hok,I.len)
def Inv.unwish(I:Inv (X.wish E) pins σ H s):'v':=(I.ok.unwish,I.os,I.bare,I.base,I.loc,I.cell,I.free,I.freeC,I.pin,I.hok,I.len)
def SP.unwish{D:Ends}{f:Flow}{s':Ub}(h:SP (X.wish E) pins D f s'):SP X pins D f s':=by
 cases f with
 | next=>let(a,b,I,q):=h;show(a,b,I.unwish,q)
 | brk=>let(a,b,I,q):=h;show(a,b,I.unwish,q)
 | cont=>let(a,b,I,q):=h;show(a,b,I.unwish,q)
 | ret u=>let(v,a,b,I,r,q):=h;show(v,a,b,I.unwish,r,q)
def PSs.nox{st:List Stmt}{t:TS}(h:PSs X.nox st t):PSs X st t:=λpins s σ H D I a=>
 Hi (h pins s σ H D (I.wish _) a) (λ_ _ q=>q.unwish) λ_ _ z=>Az z
end
section
variable{X:Cx}{st:Stmt}{rest:List Stmt}{t u:TS}{e:Expr}{te:TE}{pos:Pos}
def Yu8:TS:=λD a H=>D.nx a H
def tSeq(t u:TS):TS:=λD a H=>t {D with nx:=u D} a H
def Yg0:PSs X [] Yu8:=λ_ _ a H _ I h=>wpAny_execs_nil (a,H,I,h)
def Nr(i:PS X st t)(g:PSs X rest u):PSs X (st::rest) (tSeq t u):=by
 intro a s c H D I h;show wpAny_execs_cons (thn (i a s c H {D with nx:=u D} I h) λf d q=>?_);cases f with
 | next=>let(b,k,j,q):=q;show g a d b k D j q
 | ret v=>show q
 | brk=>show q
 | cont=>show q
def Yg9(c:PS X st t):PSs X [st] t:=by
 intro a s b H D I h;show wpAny_execs_cons (thn (c a s b H D I h) λf d q=>?_);cases f with
 | next=>show wpAny_execs_nil q
 | ret v=>show q
 | brk=>show q
 | cont=>show q
def Inv.quiet{pins:PLO}{a:St}{H:Hp}{s:Ub}(I:Inv X pins a H s):interactive X.env=false:=by simp[interactive,I.ok.kind]
def Yw5(te:TE):TS:=λD a H=>te a H λ_ b=>D.nx a b
def Y91(f:PE X e te)(d:swapsWith e none pos.line X.env=pure false:=by rfl):PS X (.Expr e pos) (Yw5 te):=by intro a s b H D I h;show wpAny_Expr_any (thn (f a s b H _ I h) λv j zz=>by let(x,i,g,k,c):=zz;show(b,i,g,c)) I.quiet d
def tRet(te:TE):TS:=λD a H=>te a H D.rt
def Ys0(f:PE X e te):PS X (.Return (some e) pos) (tRet te):=by intro a s b H D I h;show wpAny_Return_some (thn (f a s b H _ I h) λv j zz=>by let(x,i,g,c,d):=zz;show(x,b,i,g,c,d))
def tIfS(c:TT)(t u:TS):TS:=λD a H=>c a H λb d=>if b=true then t D a d else u D a d
def Yw2{c:Expr}{a b:List Stmt}{i:TT}(n:PT X c i)(p:PSs X a t)(o:PSs X b u):PS X (.If c a b pos) (tIfS i t u):=by
 intro f s g H D I h;show wpAny_If (thn (n f s g H _ I h) λd j zz=>?_);let(m,l,k):=zz;cases d with
 | true=>show p f j g m D l k
 | false=>show o f j g m D l k
def Yq9:TS:=λ_ _ _=>False
def Zq8:PS X st Yq9:=λ_ _ _ _ _ _ h=>h.elim
end
abbrev TG:=V->St->Hp->(St->Hp->Prop)->Prop
abbrev TGs:=LV->St->Hp->(St->Hp->Prop)->Prop
def PG(X:Cx)(target:Expr)(t:TG):Prop:=
 ∀(a:PLO) (s:Ub) (c:St) (H:Hp) (v:V) (u:Ua) (Q:St->Hp->Prop),Inv X a c H s->RelV v u->t v c H Q->
  ⇑X (assign target X.env u) (λ_ e=>∃b d,Inv X a b d e/\Q b d) X.xe s
def PGs(X:Cx)(ts:List Expr)(t:TGs):Prop:=
 ∀(a:PLO) (s:Ub) (c:St) (H:Hp) (d:LV) (e:LW) (Q:St->Hp->Prop),Inv X a c H s->Vals d e->t d c H Q->
  ⇑X (assignInOrder ((assignEach ts X.env).map (·.2)) e) (λ_ g=>∃b f,Inv X a b f g/\Q b f) X.xe s
abbrev TSet:=V->V->V->Hp->(Hp->Prop)->Prop
def PSet(X:Cx)(t:TSet):Prop:=
 ∀(a:PLO) (s:Ub) (b:St) (H:Hp) (o i v:V) (c d u:Ua) (Q:Hp->Prop),Inv X a b H s->RelV o c->RelV i d->RelV v u->t o i v H Q->
  ⇑X (setItem c d u) (λ_ f=>∃e,Inv X a b e f/\Q e) X.xe s
section
variable{X:Cx}{pos:Pos}
def Zh8(i:Nat):TG:=λv a H Q=>Q (a.set i (some v)) H
def Zc5{i:Nat}{x:Str}(d:X.N.Nodup)(hi:X.N[i]?=some x)(b:Loc X.env.scope x)(c:X.fn x=true\/X.env.scope.names.lookup x=some .local:=by first | show .inl rfl | show .inr rfl | assumption):PG X (.Name x pos) (Zh8 i):=by intro a s f H v u Q I r h;show wpAny_assign_Name (Zu1 I d hi b r (λg e=>(_,H,e,h)) c)
def gNil:TGs:=λb a H Q=>b=[]/\Q a H
def Ym0(t:TG)(u:TGs):TGs:=λc b H Q=>∃v r,c=v::r/\t v b H λa d=>u r a d Q
def Y64:PGs X [] gNil:=by intro a s b H c d Q I r h;let(e,h):=h;subst e;cases r;show assignInOrder_nil (b,H,I,h)
def Y02{e:Expr}{es:List Expr}{t:TG}{u:TGs}(k:PG X e t)(j:PGs X es u)
  (i:(assignEach (e::es) X.env).map (·.2)=assign e X.env::(assignEach es X.env).map (·.2):=by rfl):PGs X (e::es) (Ym0 t u):=by
 intro a s c H o q Q I r h;let(v,p,l,h):=h;subst l;cases r with
 | cons r f=>rw[i];show assignInOrder_cons (thn (k a s c H _ _ _ I r h) λ_ d zz=>?_);let(b,n,m,g):=zz;show j a d b n _ _ Q m f g
def gTup(K:Aa)(n:Nat)(t:TGs):TG:=λv c H Q=>∃a b,v= .ref a/\SqT K H a b/\b.length=n/\t b c H Q
def Yo3{es:List Expr}{k:Nat}{t:TGs}{n:Nat}(y:X.calm=true)(h:PGs X es t)
  (w:(assignEach es X.env).length=n:=by rfl) (f:(assignEach es X.env).findIdx? (·.1)=none:=by rfl):PG X (.Tuple es k pos) (gTup X.K n t):=by
 intro c s g H v u Q I r d;let(a,j,A,q,x,d):=d;subst A;cases r;let(l,i,p,C):=I.tuple q;show assign_Tuple_tuple (I.ok.hd y) p (by simp[w,<-x,i.length]) f λz m=>?_;have B:Inv X c g H {s with heap:=z}:=I.kept (t':=s.toks) λb o e=>m b o (ni (Aw e)) e;show h c _ g H j _ Q B ↥i d
def tAsg(b:TE)(g:TG):TS:=λD a H=>b a H λx c=>g x a c D.nx
def Y09{b e:Expr}{d:TE}{g:TG}(n:PE X e d)(m:PG X b g)(l:swapsWithSole [b] e pos.line X.env=pure false:=by rfl)(k:swappedStores [b] e X.env=pure none:=by rfl)
  (o:(assignEach [b] X.env).map (·.2)=[assign b X.env]:=by rfl):PS X (.Assign [b] e pos) (tAsg d g):=by
 intro a s c H D I h;show wpAny_Assign_stores (thn (n a s c H _ I h) λv f zz=>?_) l k;let(x,r,p,i,j):=zz;rw[o];show thn (m a f c r x v _ p i j) λ_ t q=>q
def Y15(c:TT)(h:TS):TS:=λD a H=>∃W:Nat->St->Hp->Prop,(∃m,W m a H)/\∀m a H,W m a H->
 c a H λb f=>if b=true then ∃N:St->Hp->Prop,(∀d g,N d g->∃e,e<m/\W e d g)/\h {D with nx:=N,ct:=N,bk:=D.nx} a f else D.nx a f
def Zw4{c:Expr}{body:List Stmt}{t:TT}{u:TS}(x:PassesOwn (model X.prog X.w) X.A X.env X.xe)(P:PT X c t)(Q:PSs X body u):PS X (.While c body [] pos) (Y15 t u):=by
 intro d s F H D I h;let(W,(O,J),i):=h;show wpAny_While (codeAny_whileLoop (λn M=>∃g E,Inv X d g E M/\W n g E) ?_ O (F,H,I,J));rintro n L ⟨e,C,R,G⟩;show Ki x (thn (P d L e C _ R (i n e C G)) λb K zz=>?_);let(B,z,l):=zz;cases b with
 | true=>
  let(N,y,l):=l;rw[nc rfl];show Ki x (thn (Q d K e B _ z l) λf S k=>?_);cases f with
  | next=>let(a,j,r,o):=k;let(p,q,m):=y a j o;show(p,q,a,j,r,m)
  | cont=>let(a,j,r,o):=k;let(p,q,m):=y a j o;show(p,q,a,j,r,m)
  | brk=>show k
  | ret v=>show k
 | false=>rw[nb Bf9];show wpAny_execs_nil (e,B,z,l)
end
structure It where
 go:Nat->Hp->Prop
 yld:Nat->Hp->V->Hp->Prop
 stop:Nat->Hp->Prop
def FpOk(X:Cx)(pins:PLO)(H:Hp)(b:Uc):Prop:=
 H b=none/\b≠X.env.locals/\b∉X.fs/\(b∈X.ex\/X.s₀⁻¹<=b)/\(∀x c,X.env.cells.lookup x=some c->c≠b)/\∀p∈X.pn++pins,p.1≠b
def Inv.fpOk{X:Cx}{pins:PLO}{d:St}{H H':Hp}{s:Ub}{b:Uc}(I:Inv X pins d H s)(a:s⁻¹<=b)(g:H' b=none):FpOk X pins H' b:=by
 show(g,nk (ng I.lt a),I.nofs a,.inr (nh I.sz a),λx c e z=>?_,λp f z=>?_)
 .let(v,q):=I.cell x c e;show absurd (ng q.lt (by rw[z];show a)) (nn _)
 .show absurd (ng (Aw (I.pin p f).1) (by rw[z];show a)) (nn _)
structure Turn(P:Ud)(w:Ue)(K:Aa)(tg:Expr)(J:It)(fp:List Uc)(it:Uc)(tn:Nat->Uf->Prop):Prop where
 mem:it∈fp
 obj:∀i h,tn i h->∀b∈fp,∃o,h.get? b=some o/\∀v,o.data≠ .cell v
 keep:∀i h h',tn i h->(∀b∈fp,∀o,h.get? b=some o->h'.get? b=some o)->tn i h'
 item:∀(X:Cx),X.prog=P->X.w=w->X.K=K->X.calm=true->∀(i:Nat) (pins:PLO) (s:Ub) (σ:St) (H:Hp) (E:VSP),'v'->(∀b∈fp,FpOk X pins H b)->tn i s.heap->J.go i H->
  wpAny (model P w) X.A (pyNext (.ref it)) (λr s1=>∃u,r=some u/\
   wpAny (model P w) X.A (letOwnedTupleGo tg (.ref it) u) (λ_ s2=>∃x H',Inv X pins σ H' s2/\RelV x u/\J.yld i H x H'/\tn (i+1) s2.heap/\∀b∈fp,H' b=none) E s1) E s
 done:∀(X:Cx),X.prog=P->X.w=w->X.K=K->X.calm=true->∀(i:Nat) (pins:PLO) (s:Ub) (σ:St) (H:Hp) (E:VSP),'v'->(∀b∈fp,FpOk X pins H b)->tn i s.heap->J.stop i H->
  wpAny (model P w) X.A (pyNext (.ref it)) (λr s1=>r=none/\Inv X pins σ H s1) E s
 self:∀(A:Around) (i:Nat) (s:Ub) (Q:VSP) (E:VSP),tn i s.heap->Q (.ref it) s->wpAny (model P w) A (pyIter (.ref it)) Q E s
abbrev TI:=St->Hp->(It->Hp->Prop)->Prop
def PIE(X:Cx)(pins:PLO)(h:St)(i:Expr)(R:It->Hp->Prop)(a:Ua)(e:Ub):Prop:=
 ∃(f:Uc) (g:List Uc) (d:Nat->Uf->Prop) (J:It) (c:Hp),a= .ref f/\Inv X pins h c e/\Turn X.prog X.w X.K i J g f d/\d 0 e.heap/\(∀b∈g,FpOk X pins c b)/\R J c
def PI(X:Cx)(d iter:Expr)(c:TI):Prop:=
 ∀(a:PLO) (s:Ub) (b:St) (H:Hp) (R:It->Hp->Prop),Inv X a b H s->c b H R->
  ⇑X (eval iter X.env) (λv e=>⇑X (pyIter v) (PIE X a b d R) X.xe e) X.xe s
def Yd7{M:Model}{A:Around}{E:VSP}{s:Ub}{b:Expr}{it:Uc}{u:Ua}{o:Obj}{n:String}{vs:Array Ua}{Q:Unit->Ub->Prop}(c:s.heap.get? it=some o)(e:o.cls= .type n)(hd:o.data= .fields vs)
  (d:["enumerate","zip","dict_itemiterator","dict_reverseitemiterator","odict_iterator","itertools.zip_longest","itertools.pairwise"].contains n=false) (a:Q () s):wpAny M A (letOwnedTupleGo b (.ref it) u) Q E s:=by
 ext letOwnedTupleGo;cases b<;>first
  | show Ar a
  |(cases u<;>first
    | show Ar a
    |(show Ag (wpAny_load c ?_)
      rw[e,hd];change wpAny M A (if (["enumerate","zip","dict_itemiterator","dict_reverseitemiterator","odict_iterator","itertools.zip_longest","itertools.pairwise"].contains n&&vs[0]?==some (rawInt _))=true then _ else _) Q E s;rw[nb (by intro h;rw[d,Bool.false_and] at h;cases h)];show Ar a))
def Itl(K:Aa)(a:Uc):It:=
 (λi H=>∃b x,SqL K H a b/\b[i]?=some x,λi H x c=>c=H/\∀b,SqL K H a b->b[i]?=some x,λi H=>∃b,SqL K H a b/\b.length<=i)
def Itt(K:Aa)(a:Uc):It:=
 (λi H=>∃b x,SqT K H a b/\b[i]?=some x,λi H x c=>c=H/\∀b,SqT K H a b->b[i]?=some x,λi H=>∃b,SqT K H a b/\b.length<=i)
def Itr(lo:Int)(n:Nat):It:=(λi _=>i<n,λi H x a=>a=H/\x= .int (lo+i),λi _=>n<=i)
def Zj4{P:Ud}{w:Ue}{K:Aa}{R:Expr}(a it:Uc):Turn P w K R (Itl K a) [it] it (λi h=>h.IsListIter it a i) where
 mem:=by simp
 obj:=λi h f b j=>by
  have e:b=it:=by simpa using j
  subst e;let(o,e,c,d):=f;show(o,e,λv z=>by rw[d] at z;cases z)
 keep:=λi h q f k=>f.at λo e=>k it 's' o e
 item:=by intro X C A D O i g s N H E I n f B;subst C A D;let(Q,x,m,y):=B;let(t,r,p,U):=I.list m;let(u,Y,T):=r.get y;let(M,L,Z,J,G,F):=n it 's';show wpAny_pyNext_list_item f p.isList (x:=u) ↥Y λq l S=>?_;have I1:Inv X g N H {s with heap:=q}:=I.turned (t':=s.toks) (λb o j e=>(S.2 b j).trans e) M L J G F;let(o,e,c,d):=id l;show(u,rfl,Yd7 (s:={s with heap:=q}) e c d 'd' (x,H,I1,T,(rfl,λys V=>by rw[I.list_inj V m];show y),l,λb j=>(n b j).1))
 done:=by intro X C A D O i g s N H E I n f B;subst C A D;let(Q,m,y):=B;let(t,r,p,U):=I.list m;let(M,L,Z,J,G,F):=n it 's';have hl:=r.length;show wpAny_pyNext_list_end (I.ok.hd O) f p.isList (by simp;lia) λq eb=>(rfl,I.turned (t':=s.toks) (λb o j e=>eb b o j e) M L J G F)
 self:=λ_ _ _ _ _ f h=>wpAny_pyIter_listiter f h
def Z70{P:Ud}{w:Ue}{K:Aa}{R:Expr}(a it:Uc):Turn P w K R (Itt K a) [it] it (λi h=>h.IsTupleIter it a i) where
 mem:=by simp
 obj:=λi h f b l=>by
  have e:b=it:=by simpa using l
  subst e;let(o,e,c,d):=f;show(o,e,λv z=>by rw[d] at z;cases z)
 keep:=λi h r f k=>f.at λo e=>k it 's' o e
 item:=by intro X C A D O i g s N H E I q f B;subst C A D;let(Q,x,n,y):=B;let(j,t,p,U):=I.tuple n;let(u,Y,T):=t.get y;let(M,L,Z,J,G,F):=q it 's';show wpAny_pyNext_tuple_item f (show s.heap.IsTuple a j.toArray from p) (x:=u) ↥Y λr m S=>?_;have I1:Inv X g N H {s with heap:=r}:=I.turned (t':=s.toks) (λb o l e=>(S.2 b l).trans e) M L J G F;let(o,e,c,d):=id m;show(u,rfl,Yd7 (s:={s with heap:=r}) e c d 'd' (x,H,I1,T,(rfl,λys V=>by rw[I.tuple_inj V n];show y),m,λb l=>(q b l).1))
 done:=by intro X C A D O i g s N H E I q f B;subst C A D;let(Q,n,y):=B;let(j,t,p,U):=I.tuple n;let(M,L,Z,J,G,F):=q it 's';have hl:=t.length;show wpAny_pyNext_tuple_end (I.ok.hd O) f (show s.heap.IsTuple a j.toArray from p) (by simp;lia) λr eb=>(rfl,I.turned (t':=s.toks) (λb o l e=>eb b o l e) M L J G F)
 self:=λ_ _ _ _ _ f h=>wpAny_pyIter_tupleiter f h
def Z64{P:Ud}{w:Ue}{K:Aa}{G:Expr}(it:Uc)(lo:Int)(n:Nat):Turn P w K G (Itr lo n) [it] it (λi h=>IsRangeIter h it (lo+(i:Nat) * 1) ((n:Int) - (i:Nat)) 1) where
 mem:=by simp
 obj:=λi h a b d=>by
  have e:b=it:=by simpa using d
  subst e;show(_,a,λv z=>by
   have F:Data.fields _=Data.cell v:=z;cases F)
 keep:=λi h j a k=>k it 's' _ a
 item:=by intro X q l r p i c s C H E I g a m;subst q l r;let(B,A,M,y,x,u):=g it 's';have W:=Walks.range (prog:=X.prog) (w:=X.w) (I.ok.hd p) it lo 1 n;show W.item i s _ _ m a λv j D L f J=>?_;let(t,rfl):=L;have O:Inv X c C H {s with heap:=j,toks:=D}:=I.turned (λb o d e=>J b o ↥d e) B A y x u;show(_,rfl,Yd7 (s:={s with heap:=j,toks:=D}) (n:="range_iterator") f rfl rfl 'd' (.int (lo+i),H,O,(t,?_),(rfl,rfl),f,λb d=>(g b d).1));rw[Int.mul_one]
 done:=by intro X q l r p i c s C H E I g a m;subst q l r;let(B,A,M,y,x,u):=g it 's';show wpAny_pyNext_range_end (I.ok.hd p) a (by have:n<=i:=m;lia) λj N=>(rfl,I.turned (t':=s.toks) (λb o d e=>N b o d e) B A y x u)
 self:=λ_ _ _ _ _ a h=>wpAny_pyIter_rangeiter a h
section
variable{X:Cx}{tg:Expr}
def Zz8{pins:PLO}{a:St}{H:Hp}{s:Ub}{R:It->Hp->Prop}{E:VSP}{lo hi:Int}{t u v:Tok}{tk:Nat}(I:Inv X pins a H s)(i:-(2 ^ 62)<=lo)(h:lo<2 ^ 62)(g:-(2 ^ 62)<=hi)(f:hi<2 ^ 62)
  (q:R (Itr lo (hi - lo).toNat) H):⇑X (pyIter (.ref s⁻¹)) (PIE X pins a tg R) E {s with heap:=s.heap.push {cls:= .type "range",data:= .fields #[.int lo t,.int hi u,.int 1 v]},toks:=tk}:=by
 show wpAny_pyIter_range (IsRange.new ..) (small_one i h g f) ?_;have c:Inv X pins a H {s with heap:=s.heap.push {cls:= .type "range",data:= .fields #[.int lo t,.int hi u,.int 1 v]},toks:=tk}:=I.kept λb o e=>Ap _ e;show((s.heap.push {cls:= .type "range",data:= .fields #[.int lo t,.int hi u,.int 1 v]}).objs.size,[(s.heap.push {cls:= .type "range",data:= .fields #[.int lo t,.int hi u,.int 1 v]}).objs.size],_,_,H,rfl,
  c.kept (t':=tk) λb o e=>Ap _ e,Z64 _ lo (hi - lo).toNat,?_,λb d=>?_,q)
 .have k:lo+((0:Nat):Int) * 1=lo:=by simp
  have j:(((hi - lo).toNat:Nat):Int) - ((0:Nat):Int)=Builtin.Range.rangeSize lo hi 1:=by rw[rangeSize_one];split<;>lia
  change IsRangeIter _ _ (lo+((0:Nat):Int) * 1) ((((hi - lo).toNat:Nat):Int) - ((0:Nat):Int)) 1;rw[k,j];show Di _ rfl
 .have e:b=(s.heap.push {cls:= .type "range",data:= .fields #[.int lo t,.int hi u,.int 1 v]}).objs.size:=by simpa using d
  subst e;show c.fpOk (na _) (c.hok.fresh (na _))
def Yx6(c:TA):TI:=λa H R=>c a H λb d=>∃j:Int,b=[.int j]/\ -(2 ^ 62)<=j/\j<2 ^ 62/\R (Itr 0 j.toNat) d
def Zp5{a:Expr}{d:TA}{p pos:Pos}(n:Gl X "range")(m:X.mg "range"=none)(o:PA X [a] d)(l:starEach [a] X.env=[#v[false,eval a X.env]]:=by rfl):PI X tg (.Call (.Name "range" p) [a] [] pos) (Yx6 d):=by
 intro b s f H R I h;show Call_ (Ee I n m boot_range (PyProof.Rows.callWith_type1 (thn (o pos b s f H _ I h) λw x zz=>?_) l rfl));let(v,y,u,i,c):=zz;let(j,e,c,k,q):=c;subst e;cases i with
 | cons r g=>cases g;let(t,rfl):=r;show call_range_1 (Zz8 u 'o' 'o' c k ↥q)
def tFor(f:TI)(g:TG)(h:TS):TS:=λD a H=>f a H λJ k=>∃W:Nat->Nat->St->Hp->Prop,(∃m,W 0 m a k)/\∀i m a H,W i m a H->
 (J.stop i H/\D.nx a H)\/(J.go i H/\∃N:St->Hp->Prop,(∀b c,N b c->∃e,e<m/\W (i+1) e b c)/\∀x c,J.yld i H x c->g x a c λd j=>h {D with nx:=N,ct:=N,bk:=D.nx} d j)
def O0(fp:List Uc)(h:Uf):PLO:=fp.filterMap λb=>(h.get? b).map λo=>#v[b,o]
def Tb{fp:List Uc}{h:Uf}{b:Uc}{o:Obj}(a:b∈fp)(e:h.get? b=some o):#v[b,o]∈O0 fp h:=List.mem_filterMap.mpr (b,a,by rw[e];rfl)
def Zh2{fp:List Uc}{h:Uf}{p:Uc×Obj}(a:p∈O0 fp h):p.1∈fp/\h.get? p.1=some p.2:=by
 let(b,c,e):=List.mem_filterMap.mp a;cases q:h.get? b with
 | none=>rw[q] at e;cases e
 | some o=>rw[q] at e;have d:#v[b,o]=p:=Dw e;subst d;show(c,q)
def Inv.pinned{pins:PLO}{a:St}{H:Hp}{s:Ub}{fp:List Uc}(I:Inv X pins a H s)(i:∀b∈fp,FpOk X pins H b)(h:∀b∈fp,∃o,s.heap.get? b=some o/\∀v,o.data≠ .cell v):Inv X (pins++O0 fp s.heap) a H s:=
 I.pins_of λp g=>(Am.mp g).elim (λz=>I.pin p (Bk _ z)) λz=>by let(c,e):=Zh2 z;let(l,k,j,_):=i p.1 c;let(o,f,d):=h p.1 c;rw[e] at f;cases f;show(e,l,k,j,d)
def Inv.unpinned{pins pl:PLO}{a:St}{H:Hp}{s:Ub}(I:Inv X (pins++pl) a H s):Inv X pins a H s:=I.pins_of λp b=>I.pin p (Bk _ (Bs _ b))
def Ym6{iter:Expr}{body:List Stmt}{wi:TI}{g:TG}{tb:TS}{pos:Pos}(hp:PassesOwn (model X.prog X.w) X.A X.env X.xe)(hc:X.calm=true)(hi:PI X tg iter wi)(hg:PG X tg g)(hb:PSs X body tb)
  (hs:∀x,foldedSetIterable iter X.env x=pure x:=by intro _;rfl):PS X (.For tg iter body [] pos) (tFor wi g tb):=by
 intro pins s σ H D I h;show wpAny_For (thn (hi pins s σ H _ I h) λv s1 h1=>thn h1 λitv s2 h2=>?_) hs;let(it,fp,tn,J,H2,e,I2,T,st2,f2,W,(m0,w0),turn):=h2;subst e;have stat:∀{H':Hp},(∀b∈fp,H' b=none)->∀b∈fp,FpOk X pins H' b:=λhn b hb=>(hn b hb,(f2 b hb).2);show codeAny_forLoop_any (λn s'=>∃i σ' H',Inv X pins σ' H' s'/\tn i s'.heap/\(∀b∈fp,H' b=none)/\W i n σ' H') ?_ m0 (0,σ,H2,I2,st2,λb hb=>(f2 b hb).1,w0);rintro n s3 ⟨i,σ3,H3,I3,st3,fr3,w3⟩;rcases turn i n σ3 H3 w3 with⟨stop,qn⟩|⟨go,N,hN,step⟩
 .refine Ki hp (thn (T.done X rfl rfl rfl hc i pins s3 σ3 H3 X.xe I3 (stat fr3) st3 stop) λr s4 zz=>?_);let(hr,I4):=zz;subst hr;show wpAny_execs_nil (σ3,H3,I4,qn)
 .refine Ki hp (thn (T.item X rfl rfl rfl hc i pins s3 σ3 H3 X.xe I3 (stat fr3) st3 go) λr s4 zz=>?_);let(u,hr,h4):=zz;subst hr;show Ki hp (thn h4 λ_ s5 zz=>?_);let(x,H5,I5,r5,y5,st5,fr5):=zz;have I5':=I5.pinned (stat fr5) (T.obj _ _ st5);show Ki hp (thn (hg _ s5 σ3 H5 x u _ I5' r5 (step x H5 y5)) λ_ s6 zz=>?_);let(σ6,H6,I6,q6):=zz;show Ki hp (thn (hb _ s6 σ6 H6 _ I6 q6) λf s7 q7=>?_);have again:∀{σ7:St} {H7:Hp},Inv X (pins++O0 fp s5.heap) σ7 H7 s7->N σ7 H7->∃m,m<n/\∃i σ' H',Inv X pins σ' H' s7/\tn i s7.heap/\(∀b∈fp,H' b=none)/\W i m σ' H':=fun{σ7 H7} I7 n7=>by let(m',hm,w7):=hN σ7 H7 n7;show(m',hm,i+1,σ7,H7,I7.unpinned,T.keep _ _ _ st5 λb hb o e=>(I7.pin #v[b,o] (Bk _ (Bk _ (Tb hb e)))).1,λb hb=>?_,w7);let(o,e,d):=T.obj _ _ st5 b hb;show(I7.pin #v[b,o] (Bk _ (Bk _ (Tb hb e)))).2.1
  cases f with
  | next=>let(σ7,H7,I7,n7):=q7;show again I7 n7
  | cont=>let(σ7,H7,I7,n7):=q7;show again I7 n7
  | brk=>let(σ7,H7,I7,q7):=q7;show(σ7,H7,I7.unpinned,q7)
  | ret v=>let(x7,σ7,H7,I7,r7,q7):=q7;show(x7,σ7,H7,I7.unpinned,r7,q7)
end
def Bh{c:TT}{j:TS}{D:Ends}{a:St}{H:Hp}(i:St->Hp->Prop)(g:St->Hp->Nat)(h0:i a H)
  (o:∀a H,i a H->c a H λb e=>if b=true then j {D with nx:=λd f=>i d f/\g d f<g a H,ct:=λd f=>i d f/\g d f<g a H,bk:=D.nx} a e else D.nx a e)
  (h:∀a H Q k,(∀b e,Q b e->k b e)->c a H Q->c a H k):Y15 c j D a H:=by
 show(λm a H=>m=g a H/\i a H,(_,rfl,h0),?_);rintro m a H ⟨rfl,p⟩;show h a H _ _ (λb e q=>?_) (o a H p);cases b with
 | true=>show(_,λd f zz=>by let(n,l):=zz;show(_,l,rfl,n),q)
 | false=>show q
abbrev R2:=V->V->Hp->VK->Prop
def OpR(X:Cx)(f:Ua->Ua->Sem Ua)(r:R2):Prop:=
 ∀(a:PLO) (s:Ub) (b:St) (H:Hp) (x y:V) (v u:Ua) (Q:VK),Inv X a b H s->RelV x v->RelV y u->r x y H Q->
  ⇑X (f v u) (EP X a b Q) X.xe s
def UnR(X:Cx)(f:Ua->Sem Ua)(r:V->Hp->VK->Prop):Prop:=
 ∀(a:PLO) (s:Ub) (b:St) (H:Hp) (x:V) (v:Ua) (Q:VK),Inv X a b H s->RelV x v->r x H Q->
  ⇑X (f v) (EP X a b Q) X.xe s
def S3(X:Cx)(f:Ua)(r:LV->Hp->VK->Prop):Prop:=
 ∀(a:PLO) (s:Ub) (b:St) (H:Hp) (c:LV) (d:LW) (Q:VK),Inv X a b H s->Vals c d->r c H Q->
  ⇑X (call f d) (EP X a b Q) X.xe s
def TruR(X:Cx)(r:V->Hp->(Bool->Hp->Prop)->Prop):Prop:=
 ∀(a:PLO) (s:Ub) (b:St) (H:Hp) (x:V) (v:Ua) (Q:Bool->Hp->Prop),Inv X a b H s->RelV x v->r x H Q->
  ⇑X (truthy v) (TP X a b Q) X.xe s
def tOp(r:R2)(c b:TE):TE:=λa H Q=>c a H λx e=>b a e λy d=>r x y d Q
def tUn(r:V->Hp->VK->Prop)(b:TE):TE:=λa H Q=>b a H λx c=>r x c Q
def rI(C:Int->Int->Prop)(g:Int->Int->V):R2:=λx y H Q=>∃i j,x= .int i/\y= .int j/\C i j/\Q (g i j) H
def rI0(g:Int->Int->V):R2:=λx y H Q=>∃i j,x= .int i/\y= .int j/\Q (g i j) H
def rU(g:Int->V):V->Hp->VK->Prop:=λx H Q=>∃i,x= .int i/\Q (g i) H
section
variable{X:Cx}{a b c:Expr}{ta tb tc:TE}{pos:Pos}
def binT(t:PE X a ta)(r:PE X b tb){pins:PLO}{s:Ub}{d:St}{H:Hp}{R:V->V->Hp->Prop}(I:Inv X pins d H s)
  (h:ta d H λx k=>tb d k λy e=>R x y e) {Q:VSP} {f:Ua->Ua->Sem Ua}
  (q:∀v u j x y e,Inv X pins d e j->RelV x v->RelV y u->R x y e->⇑X (f v u) Q X.xe j):
  ⇑X (eval a X.env) (λv i=>⇑X (eval b X.env) (λu g=>⇑X (f v u) Q X.xe g) X.xe i) X.xe s:=by
 show thn (t pins s d H _ I h) λv l zz=>?_;let(x,k,B,n,p):=zz;show thn (r pins l d k _ B p) λu j zz=>?_;let(y,e,z,m,o):=zz;show q v u j x y e z n m o
def Yy0{op:Operator}{r:R2}(j:OpR X (binaryOp op) r)(l:PE X a ta)(k:PE X b tb):PE X (.BinOp a op b pos) (tOp r ta tb):=by intro d s e H Q I h;show wpAny_BinOp (binT l k I h λv u f x y n m i g q=>j d f e n x y v u Q m i g q)
def Yv5{op:UnaryOp}{r:V->Hp->VK->Prop}(j:UnR X (unaryOp op) r)(k:PE X a ta):PE X (.UnaryOp op a pos) (tUn r ta):=by intro d s e H Q I h;show UnaryOp_ (thn (k d s e H _ I h) λv f zz=>by let(x,m,l,g,i):=zz;show j d f e m x v Q l g i)
def opI{f:Ua->Ua->Sem Ua}{C:Int->Int->Prop}{g:Int->Int->Int}
  (d:∀(i j:Int) (t u:Tok) (s:Ub) (Q:VSP) (E:VSP),C i j->Q (.int (g i j) s.toks) {s with toks:=s.toks+1}->⇑X (f (.int i t) (.int j u)) Q E s):
  OpR X f (rI C λi j=> .int (g i j)):=by
 intro e s o H x y v u Q I m l h;let(i,j,rfl,rfl,n,q):=h;let(t,rfl):=m;let(k,rfl):=l;show d i j t k s _ _ n (.int (g i j),H,I.tok _,(_,rfl),q)
def opI0{f:Ua->Ua->Sem Ua}{g:Int->Int->Int}
  (d:∀(i j:Int) (t u:Tok) (s:Ub) (Q:VSP) (E:VSP),Q (.int (g i j) s.toks) {s with toks:=s.toks+1}->⇑X (f (.int i t) (.int j u)) Q E s):
  OpR X f (rI0 λi j=> .int (g i j)):=by
 intro e s n H x y v u Q I m l h;let(i,j,rfl,rfl,q):=h;let(t,rfl):=m;let(k,rfl):=l;show d i j t k s _ _ (.int (g i j),H,I.tok _,(_,rfl),q)
def opB0{f:Ua->Ua->Sem Ua}{g:Int->Int->Bool}
  (d:∀(i j:Int) (t u:Tok) (s:Ub) (Q:VSP) (E:VSP),Q (.bool (g i j)) s->⇑X (f (.int i t) (.int j u)) Q E s):
  OpR X f (rI0 λi j=> .bl (g i j)):=by
 intro e s n H x y v u Q I m l h;let(i,j,rfl,rfl,q):=h;let(t,rfl):=m;let(k,rfl):=l;show d i j t k s _ _ (.bl (g i j),H,I,rfl,q)
def CPow(i j:Int):Prop:=0<=j/\j<=1000000/\i.natAbs<2 ^ 64
def CMul(i j:Int):Prop:=(-(2 ^ 64)<i/\i<2 ^ 64)\/(-(2 ^ 64)<j/\j<2 ^ 64)
def CMul.ok{i j:Int}(h:CMul i j):IntMulOk i j:=by
 rcases h with⟨e,d⟩|⟨e,d⟩
 .show .of_left (intBits_le_64 e d)
 .show .of_right (intBits_le_64 e d)
def Yn8:OpR X (binaryOp .Add) (rI0 λi j=> .int (i+j)):=opI0 λ_ _ _ _ _ _ _ q=>add_int q
def Yn0:OpR X (binaryOp .Sub) (rI0 λi j=> .int (i - j)):=opI0 λ_ _ _ _ _ _ _ q=>sub_int q
def Y69:OpR X (binaryOp .Mod) (rI (λ_ j=>j≠0) λi j=> .int (i.fmod j)):=opI λ_ _ _ _ _ _ _ d q=>mod_int' d q
def Yo1:OpR X (binaryOp .Pow) (rI CPow λi j=> .int (i ^ j.toNat)):=opI λ_ _ _ _ _ _ _ d q=>pow_int_small d.1 d.2.1 d.2.2 q
def unI{f:Ua->Sem Ua}{g:Int->Int}
  (d:∀(i:Int) (t:Tok) (s:Ub) (Q:VSP) (E:VSP),Q (.int (g i) s.toks) {s with toks:=s.toks+1}->⇑X (f (.int i t)) Q E s):
  UnR X f (rU λi=> .int (g i)):=by
 intro e s k H x v Q I j h;let(i,rfl,q):=h;let(t,rfl):=j;show d i t s _ _ (.int (g i),H,I.tok _,(_,rfl),q)
def Yj4:UnR X (unaryOp .USub) (rU λi=> .int (-i)):=unI λ_ _ _ _ _ q=>neg_int q
end
def scal:V->V->Bool
 | .non,.non=>true | .non,.int _=>true | .int _,.non=>true | .non,.bl _=>true | .bl _,.non=>true | .non,.str _=>true | .str _,.non=>true
 | .int _,.int _=>true | .bl _,.bl _=>true | .str _,.str _=>true | .byt _,.byt _=>true
 | .int _,.str _=>true | .str _,.int _=>true | .bl _,.str _=>true | .str _,.bl _=>true
 | _,_=>false
def rEq:R2:=λx y H Q=>scal x y=true/\Q (.bl (decide (x=y))) H
def rNe:R2:=λx y H Q=>scal x y=true/\Q (.bl (!decide (x=y))) H
def Zp7{i j:Int}:decide (V.int i=V.int j)=(i==j):=by rw[Bool.eq_iff_iff];simp
def Y23{i j:Bool}:decide (V.bl i=V.bl j)=(i==j):=by rw[Bool.eq_iff_iff];simp
def Zn5{i j:Str}:decide (V.str i=V.str j)=(i==j):=by rw[Bool.eq_iff_iff];simp
def Zi3{i j:Array UInt8}:decide (V.byt i=V.byt j)=(i.toList==j.toList):=by rw[Bool.eq_iff_iff];cases i;cases j;simp
section
variable{X:Cx}{a b c:Expr}{ta tb tc:TE}{pos:Pos}
def Zs{pins:PLO}{d:St}{H:Hp}{s:Ub}{Q:VK}{k f:Bool}(I:Inv X pins d H s)(q:Q (.bl k) H)(e:k=f):EP X pins d Q (.bool f) s:=by subst e;show(.bl k,H,I,rfl,q)
def Yx0:OpR X (compareOp .Eq) rEq:=by
 intro k s l H x y v u Q I g d h;let(f,q):=h;cases x with
 | non=>
  cases g;cases y with
  | non=>cases d;show PySem.EqNone.eq_none_none (Zs I q 's')
  | bl j=>cases d;show PySem.EqNone.eq_none_bool (Zs I q 's')
  | int j=>let(e,rfl):=d;show PySem.EqNone.eq_none_int (Zs I q 's')
  | str j=>let(e,rfl):=d;show PySem.EqNone.eq_none_str (Zs I q 's')
  | _=>show 'f'
 | bl i=>
  cases g;cases y with
  | non=>cases d;show PySem.EqNone.eq_bool_none (Zs I q 's')
  | bl j=>cases d;show eq_bool (Zs I q Y23)
  | str j=>let(e,rfl):=d;show PySem.EqMixed.eq_bool_str (Zs I q 's')
  | _=>show 'f'
 | int i=>
  let(t,rfl):=g;cases y with
  | non=>cases d;show PySem.EqNone.eq_int_none (Zs I q 's')
  | int j=>let(e,rfl):=d;show eq_int (Zs I q Zp7)
  | str j=>let(e,rfl):=d;show PySem.EqMixed.eq_int_str (Zs I q 's')
  | _=>show 'f'
 | str i=>
  let(t,rfl):=g;cases y with
  | non=>cases d;show PySem.EqNone.eq_str_none (Zs I q 's')
  | bl j=>cases d;show PySem.EqMixed.eq_str_bool (Zs I q 's')
  | int j=>let(e,rfl):=d;show PySem.EqMixed.eq_str_int (Zs I q 's')
  | str j=>let(e,rfl):=d;show eq_str (Zs I q Zn5)
  | _=>show 'f'
 | byt i=>
  let(t,rfl):=g;cases y with
  | byt j=>let(e,rfl):=d;show PySem.W.eq_bytes (Zs I q Zi3)
  | _=>show 'f'
 | _=>cases y<;>show 'f'
def Yv0:OpR X (compareOp .NotEq) rNe:=by
 intro k s l H x y v u Q I g d h;let(f,q):=h;cases x with
 | non=>
  cases g;cases y with
  | non=>cases d;show PySem.EqNone.ne_none_none (Zs I q 's')
  | bl j=>cases d;show PySem.EqNone.ne_none_bool (Zs I q 's')
  | int j=>let(e,rfl):=d;show PySem.EqNone.ne_none_int (Zs I q 's')
  | str j=>let(e,rfl):=d;show PySem.EqNone.ne_none_str (Zs I q 's')
  | _=>show 'f'
 | bl i=>
  cases g;cases y with
  | non=>cases d;show PySem.EqNone.ne_bool_none (Zs I q 's')
  | bl j=>cases d;show ne_bool (Zs I q (congrArg not Y23))
  | str j=>let(e,rfl):=d;show PySem.EqMixed.ne_bool_str (Zs I q 's')
  | _=>show 'f'
 | int i=>
  let(t,rfl):=g;cases y with
  | non=>cases d;show PySem.EqNone.ne_int_none (Zs I q 's')
  | int j=>let(e,rfl):=d;show ne_int (Zs I q (congrArg not Zp7))
  | str j=>let(e,rfl):=d;show PySem.EqMixed.ne_int_str (Zs I q 's')
  | _=>show 'f'
 | str i=>
  let(t,rfl):=g;cases y with
  | non=>cases d;show PySem.EqNone.ne_str_none (Zs I q 's')
  | bl j=>cases d;show PySem.EqMixed.ne_str_bool (Zs I q 's')
  | int j=>let(e,rfl):=d;show PySem.EqMixed.ne_str_int (Zs I q 's')
  | str j=>let(e,rfl):=d;show ne_str (Zs I q (congrArg not Zn5))
  | _=>show 'f'
 | byt i=>
  let(t,rfl):=g;cases y with
  | byt j=>let(e,rfl):=d;show PySem.W.ne_bytes (Zs I q (congrArg not Zi3))
  | _=>show 'f'
 | _=>cases y<;>show 'f'
def Yy6:OpR X (compareOp .Lt) (rI0 λi j=> .bl (decide (i<j))):=opB0 λ_ _ _ _ _ _ _ q=>lt_int q
def Yx9:OpR X (compareOp .Gt) (rI0 λi j=> .bl (decide (j<i))):=opB0 λ_ _ _ _ _ _ _ q=>gt_int q
def Zc0:OpR X (compareOp .In) (λx y H Q=>∃i j,x= .str i/\y= .str j/\Q (.bl (!(Lb j i 0 j.length 1).isEmpty)) H):=by intro d s g H x y v u Q I f e h;let(i,j,rfl,rfl,q):=h;let(t,rfl):=f;let(k,rfl):=e;show in_str (Zs I q rfl)
def Q7:OpR X (compareOp .Is) (λx y H Q=>y= .non/\Q (.bl (decide (x= .non))) H):=by
 intro e s g H x y v u Q I d f h;let(rfl,q):=h;cases f;show is_none_gen (Zs I q ?_);cases x<;>first
  |(cases d;rfl)
  |(let(t,rfl):=d;rfl)
def E4:OpR X (compareOp .NotIn) (λx y H Q=>∃i j,x= .str i/\y= .str j/\Q (.bl (!(!(Lb j i 0 j.length 1).isEmpty))) H):=by intro d s g H x y v u Q I f e h;let(i,j,rfl,rfl,q):=h;let(t,rfl):=f;let(k,rfl):=e;show notIn_str (Zs I q rfl)
def Y99{op:CmpOp}{r:R2}(j:OpR X (compareOp op) r)(m:PE X a ta)(l:PE X b tb)(k:behindInMarks op b=false):PE X (.Compare a [op] [b] pos) (tOp r ta tb):=by intro d s e H Q I h;show wpAny_Compare1 (binT m l I h λv u f x y o n i g q=>j d f e o x y v u Q n i g q) k
def Yk6(t:TE):TT:=λd H Q=>t d H λx e=>∃k,x= .bl k/\Q k e
def Y58{op:CmpOp}{r:R2}(q:OpR X (compareOp op) r)(A:PE X a ta)(w:PE X b tb)(t:behindInMarks op b=false):PT X (.Compare a [op] [b] pos) (Yk6 (tOp r ta tb)):=by
 intro d s f H Q I h;show wpAny_isTrue_Compare1 (thn (A d s f H _ I h) λv i (x,G,D,m,p)=>thn (w d i f G _ D p) λu g (y,F,C,l,o)=>
  thn (q d g f F x y v u _ C m l o) λc J (z,E,B,j,k,e,n)=>?_) t
 subst e;cases j;show wpAny_truthy_bool (E,B,n)
def TruV(K:Aa)(x:V)(H:Hp)(k:Bool):Prop:=
 match x with
 | .non=>k=false
 | .bl b=>k=b
 | .int i=>k=(i !=0)
 | .str y=>y.length<=sizeLine/\k=((y.length:Int) !=0)
 | .byt y=>y.size<=sizeLine/\k=((y.size:Int) !=0)
 | .ref p=>(∃d,SqL K H p d/\k= !d.isEmpty)\/(∃d,SqT K H p d/\k= !d.isEmpty)\/∃e,H p=some (.dK e)/\k= !e.isEmpty
 | _=>False
def Z56{d:Type}{kvs:List (d×V)}{vs:List (d×Ua)}(r:KV kvs vs):(!vs.isEmpty)= !kvs.isEmpty:=by cases r<;>rfl
def Oo{xs:LV}{its:LW}(r:Vals xs its):(!its.toArray.isEmpty)= !xs.isEmpty:=by cases r<;>simp
def Py:(sizeLine:Nat)<2 ^ 63:=by rw[Lf];decide
def Bu:TruR X (λx H Q=>∃k,TruV X.K x H k/\Q k H):=by
 intro pins s σ H x v Q I rx h;let(k,e,q):=h;have hl:=Py;have hs:sizeLine=16777216:=Lf;cases x with
 | non=>cases rx;have e':k=false:=e;subst e';show truthy_none (H,I,q)
 | bl b=>cases rx;have e':k=b:=e;subst e';show wpAny_truthy_bool (H,I,q)
 | int i=>let(t,rfl):=rx;have e':k=(i !=0):=e;subst e';show PySem.P.truthy_int (H,I,q)
 | str y=>let(t,rfl):=rx;obtain⟨hy,e'⟩:y.length<=sizeLine/\k=((y.length:Int) !=0):=e;subst e';show PySem.P.truthy_str 'o' (H,I.tok _,q)
 | byt y=>let(t,rfl):=rx;obtain⟨hy,e'⟩:y.size<=sizeLine/\k=((y.size:Int) !=0):=e;subst e';show PySem.W.truthy_bytes 'o' (H,I.tok _,q)
 | ref p=>
  cases rx;have e':(∃xs,SqL X.K H p xs/\k= !xs.isEmpty)\/(∃xs,SqT X.K H p xs/\k= !xs.isEmpty)\/∃kvs,H p=some (.dK kvs)/\k= !kvs.isEmpty:=e;rcases e' with⟨xs,hx,e'⟩|⟨xs,hx,e'⟩|⟨kvs,hx,e'⟩
  .subst e';let(its,r,pl,hz):=I.list hx;have hlen:=r.length;show wpAny_truthy_list pl.isList (by erw[Ak];lia) (H,I.tok _,by rw[Oo r];show q)
  .subst e';let(its,r,pl,hz):=I.tuple hx;have hlen:=r.length;show truthy_tuple pl (by erw[Ak];lia) (H,I.tok _,by rw[Oo r];show q)
  .subst e';obtain⟨hz,hS,vs,r,m⟩:kvs.length<=sizeLine/\(p==sysModules)=false/\∃vs,KV kvs vs/\s.heap.DictOf (Yn X.prog X.w) p vs:=I.hok p _ hx;have hlen:kvs.length=vs.length:=Paired.length r;show wpAny_truthy_dict hS m 'o' (H,I.tok _,by rw[Z56 r];show q)
 | _=>show(show False from e).elim
def Zv3(m:PE X a ta)(l:∀d,isTrue a X.env d=(do let v <-d;standAt a.pos;holding [v] (truthy v))):
  PT X a (λf H Q=>ta f H λx H'=>∃k,TruV X.K x H' k/\Q k H'):=by
 intro e s f H Q I h;show isTrue_plain (thn (m e s f H _ I h) λv g zz=>by let(x,o,n,i,j):=zz;show Bu e g f o x v Q n i j) (l _)
def Z67:OpR X (binaryOp .Add) (λx y H Q=>∃i j,x= .str i/\y= .str j/\i.length+j.length<=sizeLine/\Q (.str (i++j)) H):=by intro d s l H x y v u Q I g f h;let(i,j,rfl,rfl,k,q):=h;let(t,rfl):=g;let(e,rfl):=f;show add_str (λe m=>(.str (i++j),H,I.tok _,(_,rfl),q)) k
def Oa{x:V}{us:LW}(r:Vals [x] us):∃u,us=[u]/\RelV x u:=by
 cases r with
 | cons e d=>cases d;show(_,rfl,e)
def Zw1{x y:V}{us:LW}(r:Vals [x,y] us):∃u d,us=[u,d]/\RelV x u/\RelV y d:=by
 cases r with
 | cons h g=>
  cases g with
  | cons f e=>cases e;show(_,_,rfl,h,f)
end
structure ObjM(h:Uf)(x dx C:Uc)(mA:Str->Option Ua):Prop where
 obj:h.get? x=some (Ir C dx)
 ns:h.Ns1 dx mA
 ne:dx≠x
set_option tactic.hygienic true in
def Fl{h:Uf}{f:Uc}{c:Str->Option Ua}(n:h.Ns1 f c):∃od,h.get? f=some od/\∀name,Mh name od=some (c name):=by
 let(o,d,p,i,l,k,_,j):=n;show(o,i,λname=>?_);have e:=j name;unfold nsFind findBy at e;rw[<-Array.find?_toList] at e;ext Mh;rw[l];dsimp only;split
 .rename_i y q;rw[q] at e;show congrArg some e
 .rename_i q;rw[q] at e;have a:d.toList.any (·.refKey)=false:=by rw[List.any_eq_false];intro y g;let(z,t,b):=k y (Array.mem_toList_iff.mp g);simp[DictEntry.refKey,b]
  have m:¬d.toList.any (·.refKey)=true:=by rw[a];show Bf9
  rw[nb m];show congrArg some e
def ObjM.look{h:Uf}{x b C:Uc}{a:Str->Option Ua}(I:ObjM h x b C a):∃od,PySem.W.InstAt h x (Ir C b) C (some od)/\∀name,Mh name od=some (a name):=
 let (od,c,d):=Fl I.ns
 (od,(I.obj,rfl,rfl,c),d)
section
variable{prog:Ud}{w:Ue}{A:Around}{E:VSP}{s:Ub}{K:Aa}{x dx C f:Uc}{mA:Str->Option Ua}{name:Str}{v:Ua}
def Ye5{a:Bool}{Q:VSP}(X:K.In s.heap)(I:ObjM s.heap x dx C mA)(g:Lw K C name=true)(e:PySem.W.hasDictIn K C=true)
  (i:Dr K (.ref C) name=some none) (c:mA name=some v) (b:PySem.W.handedIn v=true) (h:Q v {s with toks:=s.toks+1}):
  wpAny (model prog w) A (getAttr (.ref x) name a) Q E s:=by
 let(j,J,d):=I.look;show PySem.W.get_value X J (PySem.W.plainGet_of g).1 (PySem.W.findObj_own e i rfl (by rw[d,c])) b h
def Y00{pl:Sem Bool}{Q:Ua×LW->Ub->Prop}(X:K.In s.heap)(I:ObjM s.heap x dx C mA)(a:Lw K C name=true)
  (g:Dr K (.ref C) name=some (↑f)) (d:Lo K (.ref f)=true) (c:mA name=none) (h:Q #v[.ref f,[.ref x]] s):
  wpAny (model prog w) A (getMethod (.ref x) name pl) Q E s:=by
 let(b,J,e):=I.look;show PySem.W.method_fn X J (PySem.W.plainGet_of a).1 (PySem.W.plainGet_of a).2 g (beq_iff_eq.mp d) (by show(Mh name b).map (·.isSome)=some false;rw[e,c];rfl) h
def Yb4{k:LS}{Q:Unit->Ub->Prop}(X:K.In s.heap)(I:ObjM s.heap x dx C mA)
  (o:Dr K (.ref C) "__setattr__"=some (some (.builtin "object.__setattr__"))) (p:PySem.W.plainOver K C=true) (n:PySem.W.takerIn K C name=some none) (q:PySem.W.hasDictIn K C=true)
  (m:PySem.Within mA k) (hsz:k.length<=sizeLine)
  (h:∀h',ObjM h' x dx C (λy=>if y=name then some v else mA y)->Me dx s.heap h'->Q () {s with heap:=h',toks:=s.toks+2}):
  wpAny (model prog w) A (setAttr (.ref x) name v) Q E s:=by
 let(B,J,F):=I.look;show PySem.W.set_plain X J o (PySem.W.osa_open (s:={s with toks:=s.toks+1}) (r:=none) X J p n λb=>?_);let(G,t,i):=PySem.W.any_some q;have l:s.heap.get? x=some (.ref C,some dx,.plain,#[]):=I.obj;show Ag (Ar (Ag (Ag (wpAny_loadPart l (Ag (PySem.W.Looks.here (s:={s with toks:=s.toks+1}) (PySem.W.looks_clsIn X t) ?_))))));rw[i];show Ar (a:=some dx) (Ag (Ar (Ag ?_)));show wpAny_nsSet1 (s:={s with toks:=s.toks+1}) I.ns λh' d c=>?_;let(D,u,z,e,g,j):=d.count (PySem.Within.cons name v m);show Ag (wpAny_lookBehind e (by rw[g];show pastItsLine_dict (nh j (by rw[Af];lia))) ?_);show Ar (h _ ((c.2 _ (Av I.ne)).trans I.obj,d,I.ne) c)
def Zt7{R:Result->Ub->Prop}{vs:LW}{b:List (Str×Ua)}(X:K.In s.heap)(c:PySem.W.makesIn K C=true)
  (hi:Dr K (.ref C) "__init__"=some (↑f)) (e:PySem.W.typeIn K (.ref f)=some (.type "function"))
  (h:codeAny (model prog w) (A.under (.builtin "type.__call__" (.ref C::vs,b))) (.call (.ref f) (.ref (s⁻¹+1)::vs,b)) (PySem.W.InitBack (s⁻¹+1) R)
   {s with heap:=(s.heap.push Ht).push (Ir C s⁻¹)}):
  codeAny (model prog w) A (.call (.ref C) (vs,b)) R s:=by
 let(j,g,d,t,i):=s;show PySem.W.make_core (PySem.W.makes_of X c) (PySem.W.looks_findIn X hi) (λa=>PySem.W.bind_fn X a e) (.inl rfl) h
end
def putF(f:Str)(v:V):List (Str×V)->List (Str×V)
 | []=>[#v[f,v]]
 |#v[g,x]::r=>if g=f then#v[g,v]::r else#v[g,x]::putF f v r
def Qq(f g:Str)(v:V):∀fs:List (Str×V),(putF f v fs).lookup g=if g=f then some v else fs.lookup g
 | []=>by
  change Kb g [#v[f,v]]=_;by_cases h:g=f
  .have a:(g==f)=true:=beq_iff_eq.mpr h;erw[Kb,a,if_pos h]
  .have a:(g==f)=false:=beq_eq_false_iff_ne.mpr h;erw[Kb,a,if_neg h]
 |#v[k,x]::r=>by
  have c:=Qq f g v r;rw[show putF f v (#v[k,x]::r)=(if k=f then#v[k,v]::r else#v[k,x]::putF f v r) from rfl];by_cases b:k=f
  .rw[nc b];by_cases h:g=k
   .have a:(g==k)=true:=beq_iff_eq.mpr h;erw[Kb,a,if_pos (h.trans b)]
   .have a:(g==k)=false:=beq_eq_false_iff_ne.mpr h;erw[Kb,a,if_neg (λe:g=f=>h (e.trans b.symm))]
  .rw[nb b];by_cases h:g=k
   .have a:(g==k)=true:=beq_iff_eq.mpr h;erw[Kb,a,if_neg (λe:g=f=>b (h.symm.trans e))]
   .have a:(g==k)=false:=beq_eq_false_iff_ne.mpr h;erw[Kb,a];show c
def O1(f:Str)(v:V):∀fs:List (Str×V),f∈(putF f v fs).map (·.1)/\∀g,g∈fs.map (·.1)->g∈(putF f v fs).map (·.1)
 | []=>(by simp[putF],λg h=>by simp at h)
 |#v[k,x]::r=>by
  let(c,b):=O1 f v r;rw[show putF f v (#v[k,x]::r)=(if k=f then#v[k,v]::r else#v[k,x]::putF f v r) from rfl];by_cases a:k=f
  .rw[nc a];subst a;show(by simp,λg h=>by simpa using h)
  .rw[nb a];show(?_,λg h=>?_)
   .rw[Aj];show Ae _ c
   .rw[Aj] at h |-;rcases Ab.mp h with e|e
    .show Ab.mpr (.inl e)
    .show Ae _ (b g e)
def Pt(f:Str)(v:V):∀fs:List (Str×V),(putF f v fs).length<=fs.length+1
 | []=>by simp[putF]
 |#v[k,x]::r=>by
  have b:=Pt f v r;rw[show putF f v (#v[k,x]::r)=(if k=f then#v[k,v]::r else#v[k,x]::putF f v r) from rfl];by_cases a:k=f
  .rw[nc a,Af,Af];lia
  .rw[nb a,Af,Af];lia
def RelO.some_of{v:V}{o:Option Ua}(r:RelO (some v) o):∃u,o=some u/\RelV v u:=by
 cases o with
 | none=>show(show False from r).elim
 | some u=>show(u,rfl,r)
def RelO.none_of{o:Option Ua}(r:RelO none o):o=none:=by
 cases o with
 | none=>rfl
 | some u=>show(show False from r).elim
def Zm3{v:V}{u:Ua}(r:RelV v u):PySem.W.handedIn u=true:=by
 cases v with
 | non=>cases (show u=Lv from r);rfl
 | bl b=>cases (show u=Value.bool b from r);rfl
 | int i=>let(t,e):=(show ∃t,u=Value.int i t from r);cases e;rfl
 | str x=>let(t,e):=(show ∃t,u=Md x t from r);cases e;rfl
 | byt b=>let(t,e):=(show ∃t,u=Value.bytes b t from r);cases e;rfl
 | flt b=>let(t,e):=(show ∃t,u=Value.float b t from r);cases e;rfl
 | ref a=>cases (show u=Ay a from r);rfl
 | ty n=>cases (show u=Ko n from r);rfl
section
variable{P:Ud}{w:Ue}{H H':Hp}{h h':Uf}{a C dx:Uc}{fs fs':List (Str×V)}
def Nt(c:HOk P w H h)(e:H a=some (.ins C dx fs)):∃b,ObjM h a dx C b/\(∀f,RelO (fs.lookup f) (b f))/\PySem.Within b (fs.map (·.1))/\fs.length<=1000/\H dx=some (.own a):=by let(d,z,i,g,b,n,r,q):=(show Yw P w H h a (.ins C dx fs) from c a _ e);show(b,(g,n,i),r,q,z,d)
end
structure Cls(K:Aa)(C:Uc):Prop where
 pg:Lw K C Str.empty=true
 hd:PySem.W.hasDictIn K C=true
 po:PySem.W.plainOver K C=true
 sa:Dr K (.ref C) "__setattr__"=some (some (.builtin "object.__setattr__"))
def Cls.get{K:Aa}{C:Uc}(c:Cls K C)(f:Str):Lw K C f=true:=c.pg
def W6(K:Aa)(C:Uc)(f:Str):Prop:=Dr K (.ref C) f=some none
def W6.taker{K:Aa}{C:Uc}{f:Str}(n:W6 K C f):PySem.W.takerIn K C f=some none:=by ext PySem.W.takerIn;rw[show Dr K (.ref C) f=some none from n];rfl
structure Meth(K:Aa)(C:Uc)(m:Str)(f:Uc):Prop where
 at_:Dr K (.ref C) m=some (↑f)
 fn:Lo K (.ref f)=true
 kp:Hg K (.ref f)=true
section
variable{X:Cx}{pins:PLO}{σ:St}{H:Hp}{s:Ub}{a C dx:Uc}{fs:List (Str×V)}{f:Str}{v:V}{A:Around}{E:VSP}
def Z89{b:Bool}{Q:VSP}(I:'v')(e:H a=some (.ins C dx fs))(c:Cls X.K C)(n:W6 X.K C f)(l:fs.lookup f=some v)
  (h:∀u s',Inv X pins σ H s'->RelV v u->Q u s'):wpAny (model X.prog X.w) A (getAttr (.ref a) f b) Q E s:=by
 let(g,O,r,_,_,_):=Nt I.hok e;let(u,i,d):=RelO.some_of (v:=v) (o:=g f) (by rw[<-l];show r f);show Ye5 I.kIn O (c.get f) c.hd n i (Zm3 d) (h u _ (I.tok _) d)
def Og{m:Str}{g:Uc}{pl:Sem Bool}{Q:Ua×LW->Ub->Prop}(I:'v')(e:H a=some (.ins C dx fs))(c:Cls X.K C)(k:Meth X.K C m g)(l:fs.lookup m=none)
  (h:Q #v[.ref g,[.ref a]] s):wpAny (model X.prog X.w) A (getMethod (.ref a) m pl) Q E s:=by
 let(b,O,r,_,_,_):=Nt I.hok e;have d:b m=none:=RelO.none_of (by rw[<-l];show r m);show Y00 I.kIn O (c.get m) k.at_ k.fn d h
def Z49{y:V}{u:Ua}{Q:Unit->Ub->Prop}(I:'v')(e:H a=some (.ins C dx fs))(c:Cls X.K C)(n:W6 X.K C f)(J:fs.length<1000)(m:RelV y u)
  (h:∀s',Inv X pins σ (upd H a (.ins C dx (putF f y fs))) s'->Q () s'):wpAny (model X.prog X.w) A (setAttr (.ref a) f u) Q E s:=by
 let(j,O,r,i,_,k):=Nt I.hok e;have p:(fs.map (·.1)).length<=sizeLine:=by rw[Al,Lf];lia
 show Yb4 I.kIn O c.sa c.po n.taker c.hd i p λF d l=>h _ ?_;have B:∃o,F.get? dx=some o:=by let(o,_,_,G,_):=d.ns;show(o,G)
 show I.write (x:=a) (e:=dx) (by rw[e];show Kc) (.inr k) (λb q D z=>(l.2 b D).trans z) B ?_;show(by rw[Z7 O.ne];show k,?_,O.ne,d.obj,_,d.ns,λg=>?_,λg t=>?_)
 .have:=Pt f y fs;lia
 .change RelO ((putF f y fs).lookup g) (if g=f then some u else j g);rw[Qq];by_cases q:g=f
  .rw[nc q,nc q];show m
  .rw[nb q,nb q];show r g
 .by_cases q:g=f
  .rw[q];show(O1 f y fs).1
  .refine(O1 f y fs).2 g (i g λz=>t ?_);show(if g=f then some u else j g)=none;rw[nb q];show z
def Inv.made(I:'v'):Inv X pins σ (upd (upd H s⁻¹ (.own (s⁻¹+1))) (s⁻¹+1) (.ins C s⁻¹ []))
  {s with heap:=(s.heap.push Ht).push (Ir C s⁻¹)}:=by
 have d:(s.heap.push Ht).get? s⁻¹=some Ht:=Di s.heap rfl;have j:((s.heap.push Ht).push (Ir C s⁻¹)).get? (s⁻¹+1)=some (Ir C s⁻¹):=by have:=Di (s.heap.push Ht) (o:=Ir C s⁻¹) rfl;rwa[Lp] at this
 have i:(s.heap.push Ht).Ns s⁻¹ (λ_=>none):=(Ht,#[],_,d,rfl,(λe h=>absurd h 's'),λ_=>rfl);have k:=I.laid (a:=s⁻¹) (o:= .own (s⁻¹+1)) (h':=s.heap.push Ht) (t':=s.toks) (λb u q=>Ap _ q) (na _) (_,d);show k.laid (a:=s⁻¹+1) (o:= .ins C s⁻¹ []) (t':=s.toks) (λb u q=>Ap _ q) (Nat.le_of_eq (Lp _ _)) ?_;have c:s⁻¹≠s⁻¹+1:=ni (Nat.lt_succ_self _);show(by rw[Z7 c,Zf],nj _,c,j,λ_=>none,(Heap.Ns1.of_empty i).at λo q=>Ap _ q,λ_=>Kc,λy g=>absurd rfl g)
def Ye2{prog:Ud}{w:Ue}{env:Env}{e:Expr}{f:Str}{pos:Pos}{s:Ub}{Q:VSP}(c:attributeBase e f env (eval e env)=eval e env)
  (h:wpAny (model prog w) A (eval e env) (λo b=>wpAny (model prog w) A (getAttr o f true) Q E b) E s):wpAny (model prog w) A (eval (.Attribute e f pos) env) Q E s:=
 Attribute_any_ h (by rw[arm_eval_Attribute,c])
end
def tFld(K:Aa)(e:TE)(f:Str):TE:=λd H Q=>e d H λx c=>∃a C g b v,x= .ref a/\c a=some (.ins C g b)/\Cls K C/\W6 K C f/\b.lookup f=some v/\Q v c
def sFld(K:Aa)(h g:TE)(f:Str):TS:=λD b H=>g b H λy i=>h b i λx e=>∃a C d c,x= .ref a/\e a=some (.ins C d c)/\Cls K C/\W6 K C f/\c.length<1000/\
 D.nx b (upd e a (.ins C d (putF f y c)))
section
variable{X:Cx}{o e value:Expr}{f:Str}{pos pos' tpos:Pos}{ta tv:TE}
def Yp2(j:PE X e ta)(k:attributeBase e f X.env (eval e X.env)=eval e X.env):PE X (.Attribute e f pos) (tFld X.K ta f):=by intro b s d H Q I h;show Ye2 k (thn (j b s d H _ I h) λu A zz=>?_);let(x,w,t,g,a,C,D,B,v,m,p,c,n,l,q):=zz;subst m;obtain rfl:u=Ay a:=g;show Z89 t p c n l λy z r i=>(v,w,r,i,q)
def Zl7(t:PE X o ta)(p:PE X value tv)(r:swapsWith value (some (.Attribute o f pos')) pos.line X.env=pure false):PS X (.Assign [.Attribute o f pos'] value pos) (sFld X.K ta tv f):=by intro b s d H D I h;show plainObj_wpAny_Assign_Attribute (thn (p b s d H _ I h) λu g (y,E,B,i,q)=>thn (t b g d E _ B q) λm G zz=>?_) r;let(x,M,A,j,a,C,L,J,v,w,c,n,l,k):=zz;subst v;obtain rfl:m=Ay a:=j;show Z49 A w c n l i λF z=>(d,_,z,k)
end
section
variable{X:Cx}{pins:PLO}{σ:St}{H:Hp}{s:Ub}{A:Around}{E:VSP}{Q:VSP}{c:Ua}{b:Bool}
inductive TyOf (K:Aa) (H:Hp):V->Ua->Prop where
 | non:TyOf K H .non (.type "NoneType")
 | bl (x:Bool):TyOf K H (.bl x) (.type "bool")
 | int (i:Int):TyOf K H (.int i) (.type "int")
 | str (x:Str):TyOf K H (.str x) (.type "str")
 | flt (x:UInt64):TyOf K H (.flt x) (.type "float")
 | lst {a:Uc} {xs:LV} (e:H a=some (.lst xs)):TyOf K H (.ref a) (.type "list")
 | frz {a:Uc} {o:Obj} {xs:LV} (e:H a=some (.frz o (.lst xs))):TyOf K H (.ref a) (.type "list")
 | tup {a:Uc} {xs:LV} (e:H a=some (.tup xs)):TyOf K H (.ref a) (.type "tuple")
 | dK {a:Uc} {kvs:List (Key×V)} (e:H a=some (.dK kvs)):TyOf K H (.ref a) (.type "dict")
 | dT {a:Uc} {kvs:List (List Key×V)} (e:H a=some (.dT kvs)):TyOf K H (.ref a) (.type "dict")
 | ins {a C dx:Uc} {fs:List (Str×V)} (e:H a=some (.ins C dx fs)) (cl:Cls K C) (ha:Dr K (.ref C) "__class__"=some (some (.builtin "object.__class__")))
   (hn:PySem.W.specialIn K (.builtin "object.__class__") "__get__"=some (some (.builtin "getset_descriptor.__get__"))) (htk:PySem.W.takesIn K (.builtin "object.__class__")=some true)
   (hm:PySem.W.mroIn K C (.type "object")=some true):TyOf K H (.ref a) (.ref C)
def Zh1{x:V}{u t:Ua}(I:'v')(d:RelV x u)(v:TyOf X.K H x t)(e:Ka X.K t c=some b)(h:∀tk,Q (.bool b) {s with toks:=tk}):
  wpAny (model X.prog X.w) A (call (.builtin "isinstance") [u,c]) Q E s:=by
 cases v with
 | non=>cases (show u=Lv from d);show Hj PySem.W.kitx_none I.kIn Kc e (λz=>nomatch z) h
 | bl y=>cases (show u=Value.bool y from d);show Hj PySem.W.kitx_bool I.kIn Kc e (λz=>nomatch z) h
 | int i=>let(t,q):=(show ∃t,u=Value.int i t from d);cases q;show Hj PySem.W.kitx_int I.kIn Kc e (λz=>nomatch z) h
 | str y=>let(t,q):=(show ∃t,u=Md y t from d);cases q;show Hj PySem.W.kitx_str I.kIn Kc e (λz=>nomatch z) h
 | flt y=>let(t,q):=(show ∃t,u=Value.float y t from d);cases q;show Hj PySem.W.kitx_float I.kIn Kc e (λz=>nomatch z) h
 | @lst a k f=>cases (show u=Ay a from d);let(_,_,n,_,g):=(show Yw X.prog X.w H s.heap a (.lst k) from I.hok a _ f);show Hj PySem.W.kitx_list I.kIn (_,g,rfl) e (λz=>nomatch z) h
 | @frz a B k f=>cases (show u=Ay a from d);let(_,_,_,n,_,g):=(show Yw X.prog X.w H s.heap a (.frz B (.lst k)) from I.hok a _ f);show Hj PySem.W.kitx_list I.kIn (_,g,rfl) e (λz=>nomatch z) h
 | @tup a k f=>cases (show u=Ay a from d);let(_,_,_,p):=(show Yw X.prog X.w H s.heap a (.tup k) from I.hok a _ f);let(o,g,l,_):=p;show Hj PySem.W.kitx_tuple I.kIn (o,g,l) e (λz=>nomatch z) h
 | @dK a j f=>cases (show u=Ay a from d);let(_,_,N,_,p):=(show Yw X.prog X.w H s.heap a (.dK j) from I.hok a _ f);let(o,L,M,g,l,_):=p;show Hj PySem.W.kitx_dict I.kIn (o,g,l.1) e (λz=>nomatch z) h
 | @dT a j f=>cases (show u=Ay a from d);let(_,_,k,_,o,L,M,g,l,_):=(show Yw X.prog X.w H s.heap a (.dT j) from I.hok a _ f);show Hj PySem.W.kitx_dict I.kIn (o,g,l.1) e (λz=>nomatch z) h
 | @ins a C T S f r G D m F=>cases (show u=Ay a from d);let(R,O,_):=Nt I.hok f;let(P,J,_):=O.look;show Hj (PySem.W.kitx_own (r.get _) r.hd G D m F) I.kIn J e (λz=>nomatch z) h
end
structure Room(k:Nat)(A:Around):Prop where
 hd:A.handled=none
 dp:A.depth+3 * k+5<recursionLimit
 un:A.units+16 * k+200<cLine
def Room.mono{j k:Nat}{A:Around}(r:Room k A)(h:j<=k):Room j A:=(r.hd,by have:=r.dp;lia,by have:=r.un;lia)
def Room.deeper{k:Nat}{A:Around}(r:Room (k+1) A)(env:Env):Room k (A.deeper env):=
 (r.hd,by have:=r.dp;change A.depth+1+3 * k+5<_;lia,by have:=r.un;change A.units+3+16 * k+200<_;lia)
def Z66{A:Around}{C:Uc}{us:LW}{a:List (Str×Ua)}:(A.under (.builtin "type.__call__" (.ref C::us,a))).depth=A.depth+1:=by
 first | rfl | simp[Around.under,Code.weight,Code.isCreation,Code.isGuard,Code.isCaller,Code.frames,Code.isFrame,guardIds]
def Z51{A:Around}{C:Uc}{us:LW}{a:List (Str×Ua)}:(A.under (.builtin "type.__call__" (.ref C::us,a))).units=A.units+1:=by
 first | rfl | simp[Around.under,Code.cUnits,Code.frames,Code.isFrame]
def Room.make{k:Nat}{A:Around}(r:Room (k+1) A)(C:Uc)(us:LW)(a:List (Str×Ua)):Room k (A.under (.builtin "type.__call__" (.ref C::us,a))):=
 (r.hd,by have:=r.dp;rw[Z66];lia,by have:=r.un;rw[Z51];lia)
def Room.depth{k:Nat}{A:Around}(r:Room k A):A.depth<recursionLimit:=by have:=r.dp;lia
def Room.units{k:Nat}{A:Around}(r:Room k A):A.units+64<cLine:=by have:=r.un;lia
def tNil:TA:=λ_ H Q=>Q [] H
def Yv6(d:TE)(c:TA):TA:=λa H Q=>d a H λx f=>c a f λb e=>Q (x::b) e
section
variable{X:Cx}{e:Expr}{es:List Expr}{te:TE}{t:TA}{pos:Pos}
def Th:PA X [] tNil:=λ_ _ _ _ H Q I h=>Calls.spliced_nil ([],H,I,.nil,h)
def Wu(m:PE X e te)(l:PA X es t)(k:starEach (e::es) X.env=#v[false,eval e X.env]::starEach es X.env:=by rfl):PA X (e::es) (Yv6 te t):=by intro pos a s b H Q I h;rw[k];change wpAny _ _ (spliced (#v[false,eval e X.env]::backTo pos (starEach es X.env))) _ _ s;show Calls.spliced_cons (thn (m a s b H _ I h) λu d zz=>?_);let(x,q,o,g,j):=zz;show thn (l pos a d b q _ o j) λr v zz=>by let(c,p,n,f,i):=zz;show(x::c,p,n,.cons g f,i)
def tTup(t:TA):TE:=λc H Q=>t c H λa b=>a.length<=sizeLine/\∀p,b p=none->Q (.ref p) (upd b p (.tup a))
def tLst(t:TA):TE:=λc H Q=>t c H λa b=>a.length<=sizeLine/\∀p,b p=none->Q (.ref p) (upd b p (.lst a))
def Yn1{x1}(h:PA X es t):PE X (.Tuple es x1 pos) (tTup t):=by intro a s g H Q I k;show wpAny_Tuple_spliced (thn (h pos a s g H _ I k) λj c (i,f,d,r,z,q)=>(by rw[<-r.length];show z,?_));have l:f c⁻¹=none:=d.hok.fresh (na _);show(.ref c⁻¹,upd f c⁻¹ (.tup i),d.laid (t':=c.toks) (λb u e=>Ap _ e) (na _) ?_,rfl,q _ l);show(z,j,r,(_,Di _ rfl,rfl,_,rfl))
def Z40(h:PA X es t):PE X (.List es pos) (tLst t):=by intro a s g H Q I k;show wpAny_List_spliced (thn (h pos a s g H _ I k) λj c (i,f,d,r,z,q)=>(by rw[<-r.length];show z,?_));have l:f c⁻¹=none:=d.hok.fresh (na _);show(.ref c⁻¹,upd f c⁻¹ (.lst i),d.laid (t':=c.toks) (λb u e=>Ap _ e) (na _) ?_,rfl,q _ l);show(z,j,0,r,Di _ rfl)
end
abbrev Sp:=LV->Hp->VK->XK->Prop
abbrev CXT:=List Env->Hp->Ub->XK->Ua->Ub->Prop
structure Env0(P:Ud)(w:Ue)(K:Aa)(mg:Str->Option Ua)(base:Uf)(A:Around)(outer:List Env)(s:Ub)(H:Hp):Prop where
 frames:A.frames=some outer
 mod:Mod K mg base
 bs:∀b o,base.get? b=some o->s.heap.get? b=some o/\H b=none
 bsz:base.objs.size<=s⁻¹
 funs:s.heap.FunFrames base outer
 frf:∀b∈frs outer,H b=none
 hok:HOk P w H s.heap
 bare:AllBare s.gens
def CE(outer:List Env)(P:Ud)(w:Ue)(H:Hp)(s:Ub)(Q:VK)(u:Ua)(s':Ub):Prop:=
 ∃v a,s'.os=s.os/\AllBare s'.gens/\Un (frs outer) [] H a s.heap s'.heap/\HOk P w a s'.heap/\RelV v u/\Q v a
def CR(CX:CXT)(outer:List Env)(P:Ud)(w:Ue)(H:Hp)(s:Ub)(Q:VK)(E:XK)(r:Result)(s':Ub):Prop:=
 match r with
 | .ok (.ret u)=>CE outer P w H s Q u s'
 | .ok _=>False
 | .error e=>CX outer H s E e s'
structure FnOk(P:Ud)(w:Ue)(K:Aa)(mg:Str->Option Ua)(base:Uf)(CX:CXT)(k:Nat)(f:Uc)(fd:FuncData)(ps:LS)(sp:Sp):Prop where
 len:∀vs H Q E,sp vs H Q E->vs.length=ps.length
 run:∀(A:Around) (outer:List Env) (s:Ub) (H:Hp) (args:Args) (us:LW) (vs:LV) (Q:VK) (E:XK),Room k A->Env0 P w K mg base A outer s H->BindsTo s fd args (ps.zip us)->Vals vs us->sp vs H Q E->
  codeAny (model P w) A (.call (.ref f) args) (CR CX outer P w H s Q E) s
def Env0.make{P:Ud}{w:Ue}{K:Aa}{mg:Str->Option Ua}{base:Uf}{A:Around}{outer:List Env}{s:Ub}{H:Hp}(e:Env0 P w K mg base A outer s H)(C:Uc)(us:LW)(a:List (Str×Ua)):
  Env0 P w K mg base (A.under (.builtin "type.__call__" (.ref C::us,a))) outer s H:=(by first | show e.frames | (simpa[Around.under,Code.envs,Code.isFrame,pushEnvs] using e.frames),e.mod,e.bs,e.bsz,e.funs,e.frf,e.hok,e.bare)
section
variable{X:Cx}{pins:PLO}{σ:St}{H:Hp}{s s':Ub}
def Inv.env0(I:'v'):Env0 X.prog X.w X.K X.mg X.base X.A X.stack s H:=
 (I.ok.frames,I.ok.mod,I.bs,nh I.ok.bsz I.sz,I.stack,I.stkFree,I.hok,I.bare)
def Inv.after{Q:VK}{u:Ua}(I:'v')(h:CE X.stack X.prog X.w H s Q u s'):EP X pins σ Q u s':=by let(v,k,i,a,f,e,r,q):=h;let(j,g,d,t,c):=s';obtain rfl:c=s.os:=i;show(v,k,I.call (h':=j) (g':=g) (d':=d) (t':=t) (ch:=[]) f e a (λb z=>absurd z 's'),r,q)
end
def Yq4(sp:Sp)(a:LV)(E:XK)(t:TA):TE:=λb H Q=>t b H λc d=>sp (c++a) d Q E
def Y84(C:Uc)(m:Str)(sp:Sp)(b:LV)(E:XK)(g:TE)(t:TA):TE:=λc H Q=>g c H λx e=>∃a h d,x= .ref a/\e a=some (.ins C h d)/\d.lookup m=none/\
 t c e λf i=>sp (x::(f++b)) i Q E
def Yx4(C:Uc)(sp:Sp)(b:LV)(E:XK)(t:TA):TE:=λd H Q=>t d H λe c=>∀x a,c x=none->c a=none->a≠x->
 sp (.ref x::(e++b)) (upd (upd c a (.own x)) x (.ins C a [])) (λv f=>v= .non/\Q (.ref x) f) E
def Wt(K:Aa)(c:FuncData)(ps:LS)(b:LW):Prop:=
 ∀(s:Ub) (a:LW),K.In s.heap->(a++b).length=ps.length->BindsTo s c (a,[]) (ps.zip (a++b))
def Wt.all{K:Aa}{b:FuncData}{ps:LS}(h:∀us:LW,us.length=ps.length->bindArgs b (us,[])=pure (ps.zip us)):Wt K b ps []:=λs us _ a=>by rw[Au] at a |-;show .of_eq (h us a)
def Ry(CX:CXT)(X:Cx)(E:XK):Prop:=∀(a:PLO) (c:St) (H:Hp) (s:Ub) (e:Ua) (b:Ub),Inv X a c H s->CX X.stack H s E e b->X.xe e b
section
variable{X:Cx}{CX:CXT}{k:Nat}{f C:Uc}{fd:FuncData}{ps:LS}{sp:Sp}{dvs:LV}{ds:LW}{E:XK}{x m:Str}{p pos apos:Pos}{e o:Expr}{es:List Expr}{ta:TE}{t:TA}
def Bm{pins:PLO}{b:St}{H:Hp}{s:Ub}{Q:VK}{us:LW}{vs:LV}(F:FnOk X.prog X.w X.K X.mg X.base CX k f fd ps sp)(i:Room k X.A)(l:Wt X.K fd ps ds)(hd:Vals dvs ds)(g:Ry CX X E)
  (I:Inv X pins b H s) (r:Vals vs us) (h:sp (vs++dvs) H Q E):⇑X (call (.ref f) us) (EP X pins b Q) X.xe s:=by
 have c:Vals (vs++dvs) (us++ds):=r.append hd;have j:(us++ds).length=ps.length:=by rw[<-c.length];show F.len _ _ _ _ h
 show wpAny_call (Mf (F.run X.A X.stack s H (us,[]) (us++ds) (vs++dvs) Q E i I.env0 (l s us I.kIn j) c h) λr d a=>?_);cases r with
 | error e=>show g pins b H s e d I a
 | ok n=>
  cases n with
  | ret u=>show I.after a
  | next=>show Az a
  | brk=>show Az a
  | cont=>show Az a
def Y44(F:FnOk X.prog X.w X.K X.mg X.base CX k f fd ps sp)(j:Room k X.A)(u:Gl X x)(l:X.mg x=↑f)(n:Hg X.K (.ref f)=true)(y:Wt X.K fd ps ds)(hd:Vals dvs ds)(i:Ry CX X E)
  (z:PA X (e::es) t) (c:(x==("__debug__":Str))=false:=by decide) (v:starEach (e::es) X.env=#v[false,eval e X.env]::starEach es X.env:=by rfl) (b:(backTo pos (starEach es X.env)).any (·.1)=false:=by rfl):
  PE X (.Call (.Name x p) (e::es) [] pos) (Yq4 sp dvs E t):=by
 intro a s g H Q I h;show Ld (Jh I u l ?_ c);show PySem.W.callWith_K (h₀:=X.base) I.ok.mod.kin n (thn (z pos a s g H _ I h) λD G (B,J,d,r,q)=>(d.kIn,?_)) v b;show Bm F j y hd i d r q
def Zr1(F:FnOk X.prog X.w X.K X.mg X.base CX k f fd ps sp)(d:Room k X.A)(j:Gl X x)(g:X.mg x=↑f)(i:Hg X.K (.ref f)=true)(l:Wt X.K fd ps ds)(hd:Vals dvs ds)(c:Ry CX X E)
  (a:(x==("__debug__":Str))=false:=by decide):PE X (.Call (.Name x p) [] [] pos) (Yq4 sp dvs E tNil):=by
 intro b s n H Q I h;show Ld (Jh I j g ?_ a);show PySem.W.callWith_K0 I.kIn i (Bm (us:=[]) F d l hd c I .nil h)
structure Mk(K:Aa)(C f:Uc):Prop where
 makes:PySem.W.makesIn K C=true
 init:Dr K (.ref C) "__init__"=some (↑f)
 fn:Lo K (.ref f)=true
 kp:Hg K (.ref C)=true
def Zu4{pins:PLO}{d:St}{H:Hp}{s:Ub}{Q:VK}{us:LW}{vs:LV}(M:Mk X.K C f)(F:FnOk X.prog X.w X.K X.mg X.base CX k f fd ps sp)(y:Room (k+1) X.A)(B:Wt X.K fd ps ds)(hd:Vals dvs ds)
  (q:Ry CX X E) (I:Inv X pins d H s) (r:Vals vs us)
  (h:∀x b,H x=none->H b=none->b≠x->sp (.ref x::(vs++dvs)) (upd (upd H b (.own x)) x (.ins C b [])) (λv L=>v= .non/\Q (.ref x) L) E):
  ⇑X (call (.ref C) us) (EP X pins d Q) X.xe s:=by
 have i:=h (s⁻¹+1) s⁻¹ (I.hok.fresh (md _)) (I.hok.fresh (na _)) (ni (Nat.lt_succ_self _));have c:=Inv.made (C:=C) I;have g:Vals (V.ref (s⁻¹+1)::(vs++dvs)) (Ay (s⁻¹+1)::(us++ds)):= .cons rfl (r.append hd);have z:(Ay (s⁻¹+1)::us++ds).length=ps.length:=by have e:=g.length;rw[F.len _ _ _ _ i] at e;show e.symm
 show wpAny_call (Zt7 (f:=f) I.kIn M.makes M.init (beq_iff_eq.mp M.fn) (Mf (F.run _ X.stack _ _ (Ay (s⁻¹+1)::us,[]) (Ay (s⁻¹+1)::(us++ds)) _ _ E (y.make C us [])
  (c.env0.make C us []) (B _ (Ay (s⁻¹+1)::us) c.kIn z) g i) λr j a=>?_))
 cases r with
 | error e=>show q pins d _ _ e j c a
 | ok D=>
  cases D with
  | ret u=>let(v,N,J,l,G,n):=c.after a;subst G;show(l,(V.ref (s⁻¹+1),N,J,rfl,n))
  | next=>show Az a
  | brk=>show Az a
  | cont=>show Az a
def Yg3(M:Mk X.K C f)(F:FnOk X.prog X.w X.K X.mg X.base CX k f fd ps sp)(j:Room (k+1) X.A)(n:Gl X x)(l:X.mg x=↑C)(v:Wt X.K fd ps ds)(hd:Vals dvs ds)(i:Ry CX X E)
  (y:PA X (e::es) t) (c:(x==("__debug__":Str))=false:=by decide) (u:starEach (e::es) X.env=#v[false,eval e X.env]::starEach es X.env:=by rfl) (b:(backTo pos (starEach es X.env)).any (·.1)=false:=by rfl):
  PE X (.Call (.Name x p) (e::es) [] pos) (Yx4 C sp dvs E t):=by
 intro a s g H Q I h;show Ld (Jh I n l ?_ c);show PySem.W.callWith_K (h₀:=X.base) I.ok.mod.kin M.kp (thn (y pos a s g H _ I h) λB D (z,G,d,r,q)=>(d.kIn,?_)) u b;show Zu4 M F j v hd i d r q
end
structure FnScope(N P:LS)(sc:Scope):Prop where
 kind:sc.kind= .function
 co:sc.isCoroutine=false
 gen:sc.isGenerator=false
 nd:N.Nodup
 pre:N.take P.length=P
 par:∀x∈P,sc.names.lookup x=some .local\/sc.names.lookup x=some .cell
 nofree:∀y∈sc.names,y.2≠ .free
def Gr{b:Str->Option NameKind}{x:Str}:∀{a:List (Str×Ua)} {m:Str->Option Ua},(∀v,#v[x,v]∉a)->bindL b a m x=m x
 | [],_,_=>rfl
 |#v[n,v]::r,m,h=>by
  ext bindL;rw[Gr λw c=>h w (Ae _ c)];split
  .have:x≠n:=by rintro rfl;show h v Ad
   simp[this]
  .rfl
def F5{b:Str->Option NameKind}{x:Str}:∀{a:List (Str×Ua)} {m:Str->Option Ua},(∀v,#v[x,v]∉a)->bindC b a m x=m x
 | [],_,_=>rfl
 |#v[n,v]::r,m,h=>by
  ext bindC;rw[F5 λw c=>h w (Ae _ c)];split
  .rfl
  .have:x≠n:=by rintro rfl;show h v Ad
   simp[this]
def Fg{a:Str->Option NameKind}{x:Str}{v:Ua}:∀{P:LS} {vs:LW} {i:Nat} {m:Str->Option Ua},P.Nodup->P[i]?=some x->vs[i]?=some v->a x=some .local->
  bindL a (P.zip vs) m x=some v
 | [],_,_,_,_,h,_,_=>by simp at h
 | _::_,[],_,_,_,_,h,_=>by simp at h
 | p::P,w::vs,0,m,d,c,b,e=>by simp at c b;subst c;subst b;change bindL a (#v[p,w]::P.zip vs) m p=_;ext bindL;rw[Gr λv f=>(Ao.mp d).1 (List.of_mem_zip f).1,nc e];simp
 | p::P,w::vs,i+1,m,d,c,b,e=>by change bindL a (#v[p,w]::P.zip vs) m x=_;ext bindL;show Fg (i:=i) (Ao.mp d).2 ↥c ↥b e
def Gc{a:Str->Option NameKind}{x:Str}{v:Ua}:∀{P:LS} {vs:LW} {i:Nat} {m:Str->Option Ua},P.Nodup->P[i]?=some x->vs[i]?=some v->a x≠some .local->
  bindC a (P.zip vs) m x=some v
 | [],_,_,_,_,h,_,_=>by simp at h
 | _::_,[],_,_,_,_,h,_=>by simp at h
 | p::P,w::vs,0,m,d,c,b,e=>by simp at c b;subst c;subst b;change bindC a (#v[p,w]::P.zip vs) m p=_;ext bindC;rw[F5 λv f=>(Ao.mp d).1 (List.of_mem_zip f).1,nb e];simp
 | p::P,w::vs,i+1,m,d,c,b,e=>by change bindC a (#v[p,w]::P.zip vs) m x=_;ext bindC;show Gc (i:=i) (Ao.mp d).2 ↥c ↥b e
def start(N:LS)(vs:LV):St:=vs.map some++Ds (N.length - vs.length) none
def cxOf(CX:CXT)(P:Ud)(w:Ue)(K:Aa)(mg:Str->Option Ua)(base:Uf)(N:LS)(qual:Str)(scope:Scope)(f:Uc)(cd:Ua)(A:Around)(outer:List Env)(s:Ub)(H:Hp)(E:XK):Cx where
 prog:=P
 w:=w
 K:=K
 mg:=mg
 base:=base
 A:=A.deeper (envOfC qual scope s⁻¹ f cd)
 N:=N
 s₀:=s
 H₀:=H
 env:=envOfC qual scope s⁻¹ f cd
 outer:=outer
 stack:=envOfC qual scope s⁻¹ f cd::outer
 ex:=[]
 calm:=true
 fn:=λ_=>true
 pn:=[]
 xe:=λe b=>wpAny (model P w) (A.deeper (envOfC qual scope s⁻¹ f cd)) (leaving (envOfC qual scope s⁻¹ f cd) e) (λ_ a=>CX outer H s E e a) (λc a=>CX outer H s E c a) b
def Z04{a:Scope}{n:Nat}{x:Str}(h:a.names.lookup x=some .cell):∃c,(cellsFrom n a.names []).lookup x=some c:=by have q:=PySem.W.cellsFrom_some a.names n [] (.inl h);show Ku.mp q
def Zl2{CX:CXT}{P:Ud}{w:Ue}{K:Aa}{mg:Str->Option Ua}{base:Uf}{N ps:LS}{qual:Str}{scope:Scope}{f:Uc}{cd:Ua}{A:Around}{outer:List Env}{s C:Ub}{H:Hp}{E:XK}{us:LW}{vs:LV}
  (S:FnScope N ps scope) (hd:A.handled=none) (g:Env0 P w K mg base A outer s H) (M:vs.length=ps.length) (r:Vals vs us)
  (x:InCallC s s⁻¹ (bindL (envOfC qual scope s⁻¹ f cd).kindOf (ps.zip us) λ_=>none) (cellsFrom (s⁻¹+1) scope.names []) (bindC (envOfC qual scope s⁻¹ f cd).kindOf (ps.zip us) λ_=>none) C):
  Inv (cxOf CX P w K mg base N qual scope f cd A outer s H E) [] (start N vs) H C:=by
 have I:ps.length<=N.length:=by have:=congrArg Lg S.pre;rw[Hk] at this;lia
 let(B,L,rfl,F):=x.done;have j:∀b:Uc,b∉(cxOf CX P w K mg base N qual scope f cd A outer s H E).ex:=λb z=>absurd (show b∈([]:List Uc) from z) 's';show((g.mod,S.kind,rfl,rfl,na _,λy z c B d=>?_,λy l=>?_,λy c _ h=>?_,λ_=>hd,Around.frames_deeper g.frames,.inr (rfl,rfl),λb z=>absurd z (j b),g.bs,g.bsz,λb _ _=>j b,λb z=>absurd z (j b),g.funs,g.frf),
  rfl,g.bare,Un.kept F,(_,x.toInCall.ns,λi y v B d O=>?_),λy c h=>(_,x.cell y c h),g.hok.fresh (na _),λy c h=>?_,λp o=>absurd (show p∈([]:PLO) from o) 's',g.hok.kept F,?_)
 .show name_of_addr x.apart (La B) (La d)
 .have l:scope.names.lookup y=some .cell\/scope.names.lookup y=some .free:=l;rcases l with l|l
  .show Z04 l
  .show absurd rfl (S.nofree _ (La l))
 .show nw (x.above y c (La h))
 .have t:i<vs.length:=by
   ext d start;by_cases t:i<vs.length
   .show t
   .rw[Kk ↥t] at d;rw[List.getElem?_replicate] at d;split at d<;>cases d
  have J:vs[i]?=some v:=by
   ext d start;rw[Dx ↥t,Dj] at d;cases e:vs[i]? with
   | none=>rw[e] at d;cases d
   | some a=>rw[e] at d;cases d;rfl
  let(u,D,G):=r.get J;have o:ps[i]?=some y:=by rw[<-S.pre,List.getElem?_take_of_lt 'o'];show B
  have m:ps.Nodup:=by rw[<-S.pre];show S.nd.sublist (List.take_sublist _ _)
  show(u,G,?_);rcases S.par y (Df o) with k|k
  .show .inl (k,Fg m o D k)
  .let(c,e):=Z04 (n:=s⁻¹+1) k;show .inr (.inl k,c,e,?_);have q:=x.cell y c e;rw[Gc m o D (by change scope.names.lookup y≠_;rw[k];decide)] at q;show q
 .show g.hok.fresh (nw (x.above y c (La h)))
 .unfold start;change _=N.length;rw[Ac,Al,List.length_replicate];lia
def Yk1{CX:CXT}{P:Ud}{w:Ue}{K:Aa}{mg:Str->Option Ua}{base:Uf}{k:Nat}{f:Uc}{name qual:Str}{c:Arguments}{body:List Stmt}{scope:Scope}{U T B R a X oc:Ua}{Z od:Option Uc}
  {F:Array (Option Ua)} {N ps:LS} {sp:Sp} (lk:K.lookup f=some (oc,od,.func (Hh name qual c body scope U T B R Z a X),F)) (M:Im K a qual=true) (S:FnScope N ps scope)
  (l:∀vs H Q E,sp vs H Q E->vs.length=ps.length)
  (i:∀(A:Around) (outer:List Env) (s:Ub) (H:Hp) (vs:LV) (Q:VK) (E:XK),Room k (A.deeper (envOfC qual scope s⁻¹ f a))->sp vs H Q E->
   ∃t,PSs (cxOf CX P w K mg base N qual scope f a A outer s H E) body t/\t {nx:=λ_ g=>Q .non g,rt:=Q} (start N vs) H):
  FnOk P w K mg base CX (k+1) f (Hh name qual c body scope U T B R Z a X) ps sp:=by
 show(l,λA outer s H Y us vs Q E L z hb r m=>?_);have hl:=l _ _ _ _ m;have KX:K.In s.heap:=z.mod.kin.keeps λb o e=>(z.bs b o e).1;have G:s.heap.NoLimit:=z.mod.nolimit.keeps λb o e=>(z.bs b o e).1;have h:∀y∈ps.zip us,scope.names.lookup y.1=some .local\/(scope.names.lookup y.1=some .cell/\((cellsFrom (s⁻¹+1) scope.names []).lookup y.1).isSome=true):=λzy2 hy=>by
  let(n,v):=zy2;rcases S.par n (List.of_mem_zip hy).1 with q|q
  .show .inl q
  .show .inr (q,PySem.W.cellsFrom_some _ _ _ (.inl q))
 show codeAny_call_function L.depth (KX _ _ lk) rfl S.co S.gen rfl (PySem.W.codeRec_of KX M) (hb _ _ _ _ ?_);show wpAny_newFunctionEnv_cells S.kind h λz0 he O x=>?_;subst he;show(G.keeps x.toInCall.keep,codeAny_func ?_);let(t,ht,hq):=i A outer s H vs Q E (L.deeper _) m;have I:Inv (cxOf CX P w K mg base N qual scope f a A outer s H E) [] (start N vs) H O:=Zl2 S L.hd z hl r x;show Hi (ht [] O (start N vs) H _ I hq) (λfl C j=>?_) λe C j=>j;have p:∀{d:St} {g:Hp} {v:V} {u:Ua},Inv (cxOf CX P w K mg base N qual scope f a A outer s H E) [] d g C->RelV v u->Q v g->CE outer P w H s Q u C:=
  fun{d g v u} J D q=>(v,g,J.os,J.bare,J.base,J.hok,D,q)
 cases fl with
 | ret u=>let(v,d,g,J,D,q):=j;show p J D q
 | next=>let(d,g,J,q):=j;show p (v:=V.non) (u:=Lv) J rfl q
 | brk=>let(_,_,_,q):=j;show Az q
 | cont=>let(_,_,_,q):=j;show Az q
section
variable{X:Cx}{x:Str}{p pos:Pos}{e:Expr}{es:List Expr}{t:TA}{id T:String}{r:LV->Hp->VK->Prop}
def tCB(r:LV->Hp->VK->Prop)(t:TA):TE:=λa H Q=>t a H λb c=>r b c Q
def Z39(u:S3 X (.builtin id) r)(o:Gl X x)(n:X.mg x=none)(l:bootBuiltins x=some (.builtin id))(v:PA X (e::es) t)(m:x≠"__name__":=by decide)(c:(x==("__debug__":Str))=false:=by decide)
  (q:starEach (e::es) X.env=#v[false,eval e X.env]::starEach es X.env:=by rfl) (b:(backTo pos (starEach es X.env)).any (·.1)=false:=by rfl):PE X (.Call (.Name x p) (e::es) [] pos) (tCB r t):=by
 intro a s d H Q I h;show Ld (Ee I o n l ?_ m c);show PyProof.Rows.callWith_builtin1 (thn (v pos a s d H _ I h) λg i zz=>by let(f,y,w,j,k):=zz;show u a i d y f g Q w j k) q b
def Qs(u:S3 X (.type T) r)(o:Gl X x)(n:X.mg x=none)(l:bootBuiltins x=some (.type T))(v:PA X (e::es) t)(m:x≠"__name__":=by decide)(c:(x==("__debug__":Str))=false:=by decide)
  (q:starEach (e::es) X.env=#v[false,eval e X.env]::starEach es X.env:=by rfl) (b:(backTo pos (starEach es X.env)).any (·.1)=false:=by rfl):PE X (.Call (.Name x p) (e::es) [] pos) (tCB r t):=by
 intro a s d H Q I h;show Ld (Ee I o n l ?_ m c);show PyProof.Rows.callWith_type1 (thn (v pos a s d H _ I h) λg i zz=>by let(f,y,w,j,k):=zz;show u a i d y f g Q w j k) q b
end
end L2
namespace HT
open PySem PyProof.Rows
section
open PySem.SeqAt
open PySem.AutoSeq1 (wpAny_loadPart')
open PySem.MeetsSeq PySem.MeetsSeq2 PySem.MeetsSeq3
end
section
variable{prog:Ud}{w:Ue}{A:Around}{E:VSP}{s:Ub}
def Yc1{t b:Uc}{vs a:LW}(y:IsTup s.heap t vs.toArray)(z:IsTup s.heap b a.toArray)(p:vs≠[])
  (C:a=[]->Q (.ref t) s) (B:a≠[]->Q (.ref s⁻¹) {s with heap:=s.heap.push {cls:= .type "tuple",data:= .seq (vs++a).toArray}})
  (k:vs.length+a.length<=sizeLine):wpAny (model prog w) A (binaryOp .Add (.ref t) (.ref b)) Q E s:=by
 let((D,u,v,m),j,r,n,q):=id y;let((x,h,l,d),c,g,o,f):=id z;simp only at r q g f;subst r q g f;have e:vs.toArray++a.toArray=(vs++a).toArray:=by simp
 by_cases i:a=[]
 .show concat_meets (_,j,rfl) (_,c,rfl) noFill_tuple_add seq_tuple_add PySem.F.slot_tuple_add PySem.F.entry_tuple_add (PySem.F.args_tuple_add_2 _ _)
   (tuple_addW1 t b vs.toArray a.toArray n o u h m d ↥p (by simp[i])) (j,c,C i)
 .refine concat_meets (_,j,rfl) (_,c,rfl) noFill_tuple_add seq_tuple_add PySem.F.slot_tuple_add PySem.F.entry_tuple_add (PySem.F.args_tuple_add_2 _ _)
   (tuple_addW2 t b vs.toArray a.toArray n o u h m d ↥p ↥i (by rw[Ak,Ak];show k)) (j,c,?_)
  rw[e];show B i
def sIx(n d:Nat):Option Int->Nat
 | none=>d
 | some v=>if v<0 then(v+(n:Int)).toNat else min v.toNat n
def Pz(n d k:Nat):sIx n d (some (k:Int))=min k n:=by show(if (k:Int)<0 then((k:Int)+(n:Int)).toNat else min (k:Int).toNat n)=min k n;rw[nb 'o',Kl]
def Yp9(n d:Nat)(hd:d<=n)(o:Option Int):sIx n d o<=n:=by
 cases o with
 | none=>show hd
 | some v=>
  show(if v<0 then(v+(n:Int)).toNat else min v.toNat n)<=n;by_cases a:v<0
  .rw[nc a];lia
  .rw[nb a];show Nat.min_le_right _ _
def Zn8(v:Int)(n d:Nat):(if v<0 then max (v+(n:Int)) 0 else min v (n:Int))=((sIx n d (some v):Nat):Int):=by
 show(if v<0 then max (v+(n:Int)) 0 else min v (n:Int))=(((if v<0 then(v+(n:Int)).toNat else min v.toNat n):Nat):Int);by_cases a:v<0
 .simp only[if_pos a];lia
 .simp only[if_neg a];lia
def Za8(lo hi:Option Int)(n:Nat):Builtin.Slice.sliceAdjust lo hi 1 (n:Int)=#v[((sIx n 0 lo:Nat):Int),((sIx n n hi:Nat):Int)]:=by
 have h1:¬((1:Int)<0):='o';ext Builtin.Slice.sliceAdjust;erw[h1,if_false];show Prod.ext ?_ ?_
 .cases lo with
  | none=>rfl
  | some v=>show Zn8 v n 0
 .cases hi with
  | none=>rfl
  | some v=>show Zn8 v n n
def Z50(i j:Nat):Kq (i:Int) (j:Int) 1=j - i:=by ext Kq;have a:(1:Int) >0:='o';erw[a,if_true,Int.ediv_one];split<;>lia
def Oj{v:Ua}(p:IsPart v o)(h:Q o s):wpAny (model prog w) A (Builtin.Slice.slicePartIndex v) Q E s:=by
 cases p with
 | none=>show slicePart_none h
 | int i t=>show slicePart_int h
def V5{sl:Uc}{vl vu:Ua}{lo hi:Option Int}{n:Nat}{Q:Int×Int×Nat->Ub->Prop}(hs:s.heap.IsSliceOf sl vl vu .none)(pl:IsPart vl lo)(pu:IsPart vu hi)
  (h:Q #v[((sIx n 0 lo:Nat):Int),1,sIx n n hi - sIx n 0 lo] s):wpAny (model prog w) A (Builtin.Slice.sliceApplied (.ref sl) (pure (n:Int))) Q E s:=by
 let(os,hos,hcs,hds):=id hs;unfold Builtin.Slice.sliceApplied Builtin.Slice.sliceFields;show Ag (Ag (wpAny_field hos hds (x:=vl) rfl (Ag (wpAny_field hos hds (x:=vu) rfl (Ag (wpAny_field hos hds (x:= .none) rfl (Ar ?_)))))));show Ag (slicePart_none ?_);change wpAny _ _ (if ((1:Int)==0)=true then _ else _) _ _ s;rw[nb 'd'];show Ag (Oj pl (Ag (Oj pu (Ag (Ar ?_)))));change wpAny _ _ (match Builtin.Slice.sliceAdjust lo hi 1 (n:Int) with | #v[lo,hi]=>pure #v[lo,(1:Int),Kq lo hi 1]) _ _ s;rw[Za8 lo hi n];change wpAny _ _ (pure #v[((sIx n 0 lo:Nat):Int),(1:Int),Kq ((sIx n 0 lo:Nat):Int) ((sIx n n hi:Nat):Int) 1]) _ _ s;rw[Z50];show Ar h
def Zw3(xs:Array Ua)(i k:Nat):((Dn k).filterMap fun(m:Nat)=>xs[((i:Int)+(m:Int) * 1).toNat]?).toArray=((xs.toList.drop i).take k).toArray:=by
 have e:(fun(m:Nat)=>xs[((i:Int)+(m:Int) * 1).toNat]?)=λm=>xs[i+m]?:=by funext m;have:((i:Int)+(m:Int) * 1).toNat=i+m:='o';rw[this]
 rw[e];have:=pick_run xs i k;rw[List.filterMap_map] at this;have a:((λx=>xs[x]?) ∘ λx=>i+x)=λm=>xs[i+m]?:=rfl;rw[a] at this;rw[this]
def R8{t sl:Uc}{items:Array Ua}{vl vu:Ua}{lo hi:Option Int}{Q:VSP}(ht:IsTup s.heap t items)(hs:s.heap.IsSliceOf sl vl vu .none)(pl:IsPart vl lo)(pu:IsPart vu hi)
  (hw:¬(sIx items.size 0 lo=0/\sIx items.size items.size hi=items.size))
  (h:Q (.ref s⁻¹) {s with heap:=s.heap.push {cls:= .type "tuple",data:= .seq ((items.toList.drop (sIx items.size 0 lo)).take (sIx items.size items.size hi - sIx items.size 0 lo)).toArray}})
  (hsz:items.size<=sizeLine):wpAny (model prog w) A (getItem (.ref t) (.ref sl)) Q E s:=by
 have htake:sizeOk (.seq ((items.toList.drop (sIx items.size 0 lo)).take (sIx items.size items.size hi - sIx items.size 0 lo)).toArray):=by show((items.toList.drop (sIx items.size 0 lo)).take (sIx items.size items.size hi - sIx items.size 0 lo)).toArray.size<=sizeLine;rw[Ak,Hk,List.length_drop,Kz];lia
 have hj:sIx items.size items.size hi<=items.size:=Yp9 _ _ (na _) hi;let(os,hos,hcs,hds):=id hs;have hTs:s.TypeIs (.ref sl) "slice":=(os,hos,hcs);ext getItem
 try with_reducible show Iv ?_
 first | show Ag (Ar ?_) | skip
 show Ag (wpAny_sequenceKey ht.typeIs 'd' ?_);show Ag (wpAny_callSpecial?_slot (name:=Str.ofString "__getitem__") ht.typeIs Hf
  (wpAny_call_entry Hf ht.typeIs entry_tuple_getitem ?_ (args_tuple_getitem _ _)))
 change wpAny _ _ (Builtin.Tuple.tupleItemsOf (.ref t) >>=_) _ _ s;show Ag (tupleItemsOf_ ht ?_);show Ag (Mg hTs ?_);rw[nc 'd'];show Ag (V5 hs pl pu ?_);have hno:¬((((sIx items.size 0 lo:Nat):Int)==0&&(1:Int)==1&&(sIx items.size items.size hi - sIx items.size 0 lo)==items.size)=true):=by intro q;rw[Bz9,Bz9] at q;have q1:((sIx items.size 0 lo:Nat):Int)=0:=Kf q.1.1;have q2:sIx items.size items.size hi - sIx items.size 0 lo=items.size:=Kf q.2;show hw ('o','o')
 change wpAny _ _ (if (((sIx items.size 0 lo:Nat):Int)==0&&(1:Int)==1&&(sIx items.size items.size hi - sIx items.size 0 lo)==items.size)=true then _ else _) _ _ s;rw[nb hno,Zw3]
 first
  | show Ag (m:=Kv _) (Lj (Ar (_,rfl,Ar h)) htake)
  | show Ag (m:=Kv _) (Lj (Ag (Ar (Ar (_,rfl,Ar h)))) htake)
  | show Ag (Ag (m:=Kv _) (Lj (Ar (Ar (_,rfl,Ar h))) htake))
  | show Ag (Ag (m:=Kv _) (Lj (Ar (_,rfl,Ar h)) htake))
end
end HT
namespace L2
open PySem PySem.Spec PyProof.Rows
abbrev TO:=St->Hp->(Option Int->Hp->Prop)->Prop
def PO(X:Cx)(e:Option Expr)(t:TO):Prop:=
 ∀(a:PLO) (s:Ub) (b:St) (H:Hp) (Q:Option Int->Hp->Prop),Inv X a b H s->t b H Q->
  ⇑X (evalPart e X.env) (λu d=>∃o c,Inv X a b c d/\IsPart u o/\Q o c) X.xe s
def Y95:TO:=λ_ H Q=>Q none H
def Yw1(t:TE):TO:=λa H Q=>t a H λx b=>∃i,x= .int i/\Q (some i) b
section
variable{X:Cx}{e:Expr}{te:TE}{lo hi:Option Expr}{tl th:TO}{pos p2:Pos}
def Ye3:PO X none Y95:=by intro a s b H Q I h;rw[evalPart_none];show Ar (none,H,I,.none,h)
def Yf5(h:PE X e te):PO X (some e) (Yw1 te):=by intro a s b H Q I f;rw[evalPart_some];show thn (h a s b H _ I f) λu k zz=>?_;let(x,j,g,c,d):=zz;let(i,rfl,q):=d;let(t,rfl):=c;show(some i,j,g,.int i t,q)
def SlR(X:Cx)(r:V->Option Int->Option Int->Hp->VK->Prop):Prop:=
 ∀(a:PLO) (s:Ub) (b:St) (H:Hp) (x:V) (v d c:Ua) (lo hi:Option Int) (f:Uc) (Q:VK),Inv X a b H s->RelV x v->s.heap.IsSliceOf f d c .none->IsPart d lo->IsPart c hi->r x lo hi H Q->
  ∃T id,typeLookup (.type T) "__getitem__"=pure (some (.builtin id))/\s.TypeIs v T/\⇑X (getItem v (.ref f)) (EP X a b Q) X.xe s
def tSl(r:V->Option Int->Option Int->Hp->VK->Prop)(te:TE)(tl th:TO):TE:=λa H Q=>te a H λx d=>tl a d λl c=>th a c λu b=>r x l u b Q
def Z36(C:SlR X r)(F:PE X e te)(D:PO X lo tl)(z:PO X hi th):PE X (.Subscript e (.Slice lo hi none p2) pos) (tSl r te tl th):=by intro a s d H Q I h;show Subscript_ (thn (F a s d H _ I h) λv k zz=>?_);let(x,O,M,m,p):=zz;show wpAny_Slice (thn (D a k d O _ M p) λg j (l,N,L,y,o)=>thn (z a j d N _ L o) λf c zz=>?_);let(u,i,K,t,n):=zz;rw[evalPart_none];show Ar ?_;have J:Inv X a d i {c with heap:=c.heap.push {cls:= .type "slice",data:= .fields #[g,f,.none]}}:=K.kept (t':=c.toks) λb P q=>Ap _ q;let(T,id,G,B,E):=C a {c with heap:=c.heap.push {cls:= .type "slice",data:= .fields #[g,f,.none]}} d i x v g f l u c⁻¹ Q J m (Heap.IsSliceOf.new ..) y t n;change ⇑X (subscriptTail e (.Slice lo hi none p2) v (.ref c⁻¹)) (EP X a d Q) X.xe {c with heap:=c.heap.push {cls:= .type "slice",data:= .fields #[g,f,.none]}};show tail_any (ops:=[.ref c⁻¹,v]) B G E (by with_unfolding_all rfl)
def cutV(xs:LV)(lo hi:Option Int):LV:=(xs.drop (HT.sIx xs.length 0 lo)).take (HT.sIx xs.length xs.length hi - HT.sIx xs.length 0 lo)
def O4(xs:LV)(lo hi:Option Int):(cutV xs lo hi).length<=xs.length:=by ext cutV;rw[Hk,List.length_drop];lia
def rSlT(K:Aa):V->Option Int->Option Int->Hp->VK->Prop:=λx lo hi H Q=>∃a b,x= .ref a/\SqT K H a b/\
 ¬(HT.sIx b.length 0 lo=0/\HT.sIx b.length b.length hi=b.length)/\∀p,H p=none->Q (.ref p) (upd H p (.tup (cutV b lo hi)))
def Y38:SlR X (rSlT X.K):=by
 intro g s u H x v y w lo hi z Q I k t m l h;let(a,d,rfl,n,p,q):=h;cases k;let(f,r,j,i):=I.tuple n;have c:f.toArray.size=d.length:=by rw[Ak];show r.length.symm
 show("tuple",_,Hf.lookup,j.typeIs,?_);show HT.R8 j t m l (by rw[c];show p) ?_ (by rw[c];show i);rw[c];show(.ref s⁻¹,_,I.laid (t':=s.toks) (o:= .tup (cutV d lo hi)) (λb A q=>Ap _ q) (na _) ?_,rfl,q _ (I.hok.fresh (na _)));show(nh (O4 d lo hi) i,_,(r.drop (HT.sIx d.length 0 lo)).take (HT.sIx d.length d.length hi - HT.sIx d.length 0 lo),IsTup.new _ _)
def Yt6(K:Aa):R2:=λx y H Q=>∃a b d c,x= .ref a/\y= .ref b/\SqT K H a d/\SqT K H b c/\d≠[]/\d.length+c.length<=sizeLine/\
 (c=[]->Q (.ref a) H)/\(c≠[]->∀p,H p=none->Q (.ref p) (upd H p (.tup (d++c))))
def Vals.nil_iff(r:Vals xs us):us=[]↔xs=[]:=by
 cases r with
 | nil=>simp
 | cons _ _=>simp
def Y92:OpR X (binaryOp .Add) (Yt6 X.K):=by intro f s D H x y v u Q I m l h;let(a,b,k,j,rfl,rfl,C,B,A,i,p,n):=h;cases m;cases l;let(t,d,r,_):=I.tuple C;let(g,c,p2,_):=I.tuple B;show HT.Yc1 r p2 (λz=>A (d.nil_iff.mp z)) (λz=>(.ref a,H,I,rfl,p (c.nil_iff.mp z))) (λz=>?_) (by rw[<-d.length,<-c.length];show i);show(.ref s⁻¹,_,I.laid (t':=s.toks) (o:= .tup (k++j)) (λb E q=>Ap _ q) (na _) ?_,rfl,n (λw=>z (c.nil_iff.mpr w)) _ (I.hok.fresh (na _)));show(by rw[Ac];show i,_,d.append c,IsTup.new _ _)
end
def ixN(n:Nat)(i:Int):Option Nat:=if 0<=i then(if i<n then some i.toNat else none) else if -(n:Int)<=i then some (i+n).toNat else none
def atI{a:Type}(xs:List a)(i:Int):Option a:=(ixN xs.length i).bind λj=>xs[j]?
def Ze3{n:Nat}{i:Int}(h:ixN n i=some j):seqIndex? i n=some j/\j<n/\ -(n:Int)<=i/\i<n:=by
 ext h ixN;by_cases b:0<=i
 .rw[nc b] at h;by_cases a:i<n
  .rw[nc a] at h;have e:i.toNat=j:=Dw h;show(by rw[seqIndex_of b a,e],'o','o',a)
  .rw[nb a] at h;cases h
 .rw[nb b] at h;by_cases a:-(n:Int)<=i
  .rw[nc a] at h;have e:(i+n).toNat=j:=Dw h;show(by rw[seqIndex_neg 'o' a,e],'o',a,'o')
  .rw[nb a] at h;cases h
def Er{a:Type}{xs:List a}{i:Int}{v:a}(h:atI xs i=some v):∃j,seqIndex? i xs.length=some j/\xs[j]?=some v/\j<xs.length/\ -(xs.length:Int)<=i/\i<xs.length:=by
 ext h atI;cases e:ixN xs.length i with
 | none=>rw[e] at h;cases h
 | some j=>rw[e] at h;let(f,d,c,b):=Ze3 e;show(j,f,h,d,c,b)
def Wi{a:Type}{xs:List a}{j:Nat}{v:a}(h:xs[j]?=some v):atI xs (j:Int)=some v:=by
 have b:j<xs.length:=(Ai.mp h).1;have e:ixN xs.length (j:Int)=some j:=by ext ixN;rw[nc 'o',nc 'o'];simp
 ext atI;rw[e];show h
def Zl1(b:Expr):Prop:=∀o i,subscripted b false o i=operate [o,i] (getItem o i)
def IxR(X:Cx)(r:R2):Prop:=
 ∀(c a:Expr) (b:PLO) (s:Ub) (d:St) (H:Hp) (x y:V) (v u:Ua) (Q:VK),Inv X b d H s->RelV x v->RelV y u->r x y H Q->
  subscripted a false v u=operate [v,u] (getItem v u)->⇑X (subscriptTail c a v u) (EP X b d Q) X.xe s
def MtR(X:Cx)(id:String)(r:V->LV->Hp->VK->Prop):Prop:=
 ∀(a:PLO) (s:Ub) (b:St) (H:Hp) (x:V) (c:LV) (v:Ua) (d:LW) (Q:VK),Inv X a b H s->RelV x v->Vals c d->r x c H Q->
  ⇑X (call (.builtin id) (v::d)) (EP X a b Q) X.xe s
section
variable{X:Cx}{a b:Expr}{ta tb:TE}{pos:Pos}
def Yu2(j:IxR X r)(l:PE X a ta)(k:PE X b tb)(i:Zl1 b):PE X (.Subscript a b pos) (tOp r ta tb):=by intro c s d H Q I h;show Subscript_ (binT l k I h λv u e x y n m g f q=>j a b c e d n x y v u Q m g f q (i _ _))
def rIxL(K:Aa):R2:=λx y H Q=>∃p c i v,x= .ref p/\y= .int i/\SqL K H p c/\atI c i=some v/\Q v H
def rIxT(K:Aa):R2:=λx y H Q=>∃p c i v,x= .ref p/\y= .int i/\SqT K H p c/\atI c i=some v/\Q v H
def rIxS:R2:=λx y H Q=>∃z i c,x= .str z/\y= .int i/\z.length<=sizeLine/\atI z.cps.toList i=some c/\Q (.str ⟨#[c]⟩) H
def Yi5:IxR X (rIxL X.K):=by
 intro f g c s o H x y v u Q I F E h A;let(p,P,i,z,rfl,rfl,G,L,q):=h;cases F;let(t,rfl):=E;let(m,r,l,R):=I.list G;let(j,e,O,T,N,M):=Er L;let(w,C,k):=r.get O;have J:=r.length;have S:=Py;have d:EP X c o Q w s:=(z,H,I,k,q);by_cases B:0<=i
 .have n:i.toNat=j:=by rw[seqIndex_of B M] at e;show Dw e
  show item_listR l.isList B 'o' (by rw[n];simpa using C) d A
 .have n:(i+(m.toArray.size:Int)).toNat=j:=by rw[seqIndex_neg 'o' N] at e;rw[Ak,<-J];show Dw e
  show subscriptTail_builtinR (x:=w) l.isList.typeIs slot_list_getitem.lookup
   (wpAny_getItem_list_neg (Q:=λr D=>r=w/\EP X c o Q r D) l.isList 'o' (by rw[Ak]<;>lia) 'o' (by rw[n];simpa using C) (rfl,d)) A
def Y05:IxR X (rIxT X.K):=by
 intro d e c s k H x y v u Q I o n h B;let(p,L,i,z,rfl,rfl,C,E,q):=h;cases o;let(t,rfl):=n;let(A,r,l,M):=I.tuple C;let(j,G,F,R,P,O):=Er E;let(w,J,f):=r.get F;have D:=r.length;have N:=Py;have g:EP X c k Q w s:=(z,H,I,f,q);show subscriptTail_builtinR (x:=w) l.typeIs slot_tuple_getitem.lookup
  (getItem_tuple (j:=j) (Q:=λr m=>r=w/\EP X c k Q r m) l 'o' 'o' (by rw[Ak,<-D];show G) ↥J (rfl,g)) B
def Yq3:IxR X rIxS:=by
 intro d e f s C H x y v u Q I l k h m;let(z,i,c,rfl,rfl,E,o,q):=h;let(t,rfl):=l;let(D,rfl):=k;let(j,g,w,G,r,p):=Er o;have n:z.cps.toList.length=z.length:=by simp[Str.length]
 rw[n] at g r p;have F:=Py;show tail_any (typeIs_str s z t) slot_str_getitem.lookup (getItem_str (c:=c) (by
  have B:decide (i< -(2 ^ 63:Int))=false:=ma 'o';have A:decide (i >= 2 ^ 63)=false:=ma 'o';rw[B,A,Bool.or_false]) (by rw[g];simpa using w) (.str ⟨#[c]⟩,H,I.tok _,(_,rfl),q)) m
def Z99(its:LW)(n j:Nat)(u:Ua):Iu (·.setIfInBounds j u) {cls:= .type "list",data:= .seq its.toArray n}={cls:= .type "list",data:= .seq (its.set j u).toArray n}:=by simp[Iu]
def Inv.lst{pins:PLO}{c:St}{H:Hp}{s:Ub}{p:Uc}{xs:LV}(I:Inv X pins c H s)(h:H p=some (.lst xs)):
  ∃(its:LW) (n:Nat),Vals xs its/\s.heap.get? p=some {cls:= .type "list",data:= .seq its.toArray n}/\xs.length<=sizeLine:=by
 let(z,its,n,r,e):=I.hok p _ h;show(its,n,r,e,z)
def Inv.lstUpd{pins:PLO}{c:St}{H:Hp}{s:Ub}{p:Uc}{xs ys:LV}{its its':LW}{n n':Nat}{f:Obj->Obj}(I:Inv X pins c H s)(h:H p=some (.lst xs))
  (i:s.heap.get? p=some {cls:= .type "list",data:= .seq its.toArray n}) (d:f {cls:= .type "list",data:= .seq its.toArray n}={cls:= .type "list",data:= .seq its'.toArray n'}) (r:Vals ys its') (g:ys.length<=sizeLine) (t:Nat):
  Inv X pins c (upd H p (.lst ys)) {s with heap:=s.heap.update p f,toks:=t}:=by
 have e:(s.heap.update p f).get? p=some {cls:= .type "list",data:= .seq its'.toArray n'}:=by rw[Lq f i (by rw[d]<;>rfl),d]
 show I.write (x:=p) (e:=p) (by rw[h];trivial) (.inl rfl) (λb u j q=>(Kd _ _ (Av j)).trans q) (_,e) ?_;show(g,its',n',r,e)
def Yo5:V->V->V->Hp->(Hp->Prop)->Prop:=λo i v H Q=>∃p c k j,o= .ref p/\i= .int k/\H p=some (.lst c)/\ixN c.length k=some j/\Q (upd H p (.lst (c.set j v)))
def Zv7:PSet X Yo5:=by
 intro c s A H o i v J K u Q I D E C h;let(p,B,k,j,rfl,rfl,m,G,q):=h;cases D;let(t,rfl):=E;let(d,n,r,f,F):=I.lst m;let(e,M,x,w):=Ze3 G;have g:=r.length;have L:=Py;have z:Inv X c A (upd H p (.lst (B.set j v))) {s with heap:=s.heap.update p (Iu (·.setIfInBounds j u))}:=
  I.lstUpd m f (Z99 d n j u) (r.set C j) (by rw[Dm];show F) s.toks
 by_cases y:0<=k
 .have l:k.toNat=j:=by rw[seqIndex_of y w] at e;show Dw e
  show PySem.W.ki_setAt f y 'o' (by rw[Ak,<-g];show w) (by rw[l];show(_,z,q))
 .have l:(k+(d.toArray.size:Int)).toNat=j:=by rw[seqIndex_neg 'o' x] at e;rw[Ak,<-g];show Dw e
  show PySem.W.ki_setBack f 'o' (by rw[Ak,<-g];show x) 'o' (by rw[l];show(_,z,q))
def Fv(lo hi:Option Int)(n:Nat):(sliceBounds lo hi none n).1=((HT.sIx n 0 lo:Nat):Int)/\(sliceBounds lo hi none n).2.1=((HT.sIx n n hi:Nat):Int)/\(sliceBounds lo hi none n).2.2=1:=by
 show(?_,?_,rfl)
 .cases lo with
  | none=>simp[sliceBounds,HT.sIx]
  | some i=>
   erw[sliceBounds,HT.sIx,Option.getD_none,show(1:Int) >0 by decide,if_true];by_cases h:i<0
   .simp only[h,if_true]<;>lia
   .simp only[h,if_false]<;>lia
 .cases hi with
  | none=>simp[sliceBounds,HT.sIx]
  | some i=>
   erw[sliceBounds,HT.sIx,Option.getD_none,show(1:Int) >0 by decide,if_true];by_cases h:i<0
   .simp only[h,if_true]<;>lia
   .simp only[h,if_false]<;>lia
def G1(its:LW)(lo hi:Option Int):slicePick its.toArray lo hi none=((its.drop (HT.sIx its.length 0 lo)).take (HT.sIx its.length its.length hi - HT.sIx its.length 0 lo)).toArray:=by let(e,d,c):=Fv lo hi its.toArray.size;ext slicePick;rw[e,d,c];erw[sliceRange_one,pick_run,Ak]<;>rfl
def rSlL(K:Aa):V->Option Int->Option Int->Hp->VK->Prop:=λx d e H Q=>∃a c,x= .ref a/\SqL K H a c/\∀p,H p=none->Q (.ref p) (upd H p (.lst (cutV c d e)))
def Y93:SlR X (rSlL X.K):=by intro g s u H x v y w e f z Q I j t l k h;let(a,c,rfl,p,q):=h;cases j;let(m,r,i,n):=I.list p;have d:=r.length;show("list",_,slot_list_getitem.lookup,i.isList.typeIs,?_);show wpAny_getItem_list_slice i.isList t l k .none 's' ?_ (by rw[Ak]<;>lia);rw[G1,<-d];show(.ref s⁻¹,_,I.laid (t':=s.toks) (o:= .lst (cutV c e f)) (λb A q=>Ap _ q) (na _) ?_,rfl,q _ (I.hok.fresh (na _)));show(nh (O4 c e f) n,_,0,(r.drop (HT.sIx c.length 0 e)).take (HT.sIx c.length c.length f - HT.sIx c.length 0 e),Di _ rfl)
def Wd:V->Bool
 | .non=>true
 | .bl _=>true
 | .int _=>true
 | .str _=>true
 | _=>false
def eqV:V->V->Bool
 | .non,.non=>true
 | .bl a,.bl b=>a==b
 | .bl a,.int b=>(if a then 1 else 0)==b
 | .int a,.bl b=>a==(if b then 1 else 0)
 | .int a,.int b=>a==b
 | .str a,.str b=>a==b
 | _,_=>false
def Zd8{s:Ub}{y x:V}{u v:Ua}(e:RelV y u)(c:RelV x v)(g:Wd y=true)(f:Wd x=true):Dt A s u v (eqV y x):=by
 cases y with
 | non=>
  cases e;cases x with
  | non=>cases c;show Dt.same _
  | bl b=>cases c;show Dt.none_bool b
  | int b=>let(t,rfl):=c;show Dt.none_int b t
  | str b=>let(t,rfl):=c;show Dt.none_str b t
  | _=>show 'f'
 | bl a=>
  cases e;cases x with
  | non=>cases c;show Dt.bool_none a
  | bl b=>cases c;show Dt.bool_bool a b
  | int b=>let(t,rfl):=c;show Dt.bool_int a b t
  | str b=>let(t,rfl):=c;show Dt.bool_str a b t
  | _=>show 'f'
 | int a=>
  let(d,rfl):=e;cases x with
  | non=>cases c;show Dt.int_none a d
  | bl b=>cases c;show Dt.int_bool a d b
  | int b=>let(t,rfl):=c;show Dt.int_int a d b t
  | str b=>let(t,rfl):=c;show Dt.int_str a d b t
  | _=>show 'f'
 | str a=>
  let(d,rfl):=e;cases x with
  | non=>cases c;show Dt.str_none a d
  | bl b=>cases c;show Dt.str_bool a d b
  | int b=>let(t,rfl):=c;show Dt.str_int a d b t
  | str b=>let(t,rfl):=c;show Dt.str_str a d b t
  | _=>show 'f'
 | _=>show absurd (show false=true from g) Bf9
def eqU(x:V)(u:Ua):Bool:=match u with
 | .none=>eqV .non x
 | .bool b=>eqV (.bl b) x
 | .int i _=>eqV (.int i) x
 | .str z _=>eqV (.str z) x
 | _=>false
def Y27{x y:V}(r:RelV y u)(f:Wd y=true):eqU x u=eqV y x:=by
 cases y with
 | non=>cases r;rfl
 | bl b=>cases r;rfl
 | int i=>let(t,rfl):=r;rfl
 | str z=>let(t,rfl):=r;rfl
 | _=>show 'f'
def Jy{x:V}:∀{xs:LV} {us:LW},Vals xs us->xs.all Wd=true->us.any (eqU x)=xs.any λy=>eqV y x:=by
 intro xs us h;induction h with
 | nil=>intro _;rfl
 | cons r t ih=>intro f;rw[Ic,Bz9] at f;rw[Ax,Ax,Y27 r f.1,ih f.2]
def Qj{s:Ub}{x:V}{v:Ua}(d:RelV x v)(e:Wd x=true):∀{xs:LV} {us:LW},Vals xs us->xs.all Wd=true->∀u∈us,Dt A s u v (eqU x u):=by
 intro xs us h;induction h with
 | nil=>intro _ u c;cases c
 | cons r t ih=>
  intro f g c;rw[Ic,Bz9] at f;rcases Ab.mp c with rfl|c
  .rw[Y27 r f.1];show Zd8 r d f.1 e
  .show ih f.2 g c
def inV(x:V)(xs:LV):Bool:=xs.any λy=>eqV y x
def rIn(K:Aa)(d:Bool):R2:=λx y H Q=>∃p c,y= .ref p/\(SqL K H p c\/SqT K H p c)/\Wd x=true/\c.all Wd=true/\Q (.bl (if d then !inV x c else inV x c)) H
def Zi4:OpR X (compareOp .In) (rIn X.K false):=by
 intro j s n H x y v u Q I i l h;let(p,o,rfl,d,k,e,q):=h;cases l;rcases d with d|d
 .let(c,r,f,m):=I.list d;show SeqAt.in_listAt (eqU x) f.isList (λw g=>Qj i k r e w ↥g) (.bl _,H,I,rfl,?_);rw[show c.toArray.any (eqU x)=c.any (eqU x) by simp,Jy r e];show q
 .let(c,r,f,m):=I.tuple d;show SeqAt.in_tupleAt (eqU x) f (λw g=>Qj i k r e w ↥g) (.bl _,H,I,rfl,?_);rw[show c.toArray.any (eqU x)=c.any (eqU x) by simp,Jy r e];show q
def F9:OpR X (compareOp .NotIn) (rIn X.K true):=by
 intro j s n H x y v u Q I i l h;let(p,o,rfl,d,k,e,q):=h;cases l;rcases d with d|d
 .let(c,r,f,m):=I.list d;show SeqAt.notIn_listAt (eqU x) f.isList (λw g=>Qj i k r e w ↥g) (.bl _,H,I,rfl,?_);rw[show c.toArray.any (eqU x)=c.any (eqU x) by simp,Jy r e];show q
 .let(c,r,f,m):=I.tuple d;show SeqAt.notIn_tupleAt (eqU x) f (λw g=>Qj i k r e w ↥g) (.bl _,H,I,rfl,?_);rw[show c.toArray.any (eqU x)=c.any (eqU x) by simp,Jy r e];show q
def Q4:S3 X (.builtin "len") (λxs H Q=>∃p ys,xs=[.ref p]/\(SqL X.K H p ys\/SqT X.K H p ys)/\Q (.int ys.length) H):=by
 intro i s l H xs m Q I r h;let(p,ys,rfl,d,q):=h;let(u,rfl,j):=Oa r;cases j;have n:=Py;rcases d with d|d
 .let(g,e,f,k):=I.list d;have c:=e.length;show Calls.call_len_list f.isList (by erw[Ak]<;>lia) (.int ys.length,H,I.tok _,(s.toks+1,by rw[Ak,c]),q)
 .let(g,e,f,k):=I.tuple d;have c:=e.length;show len_tuple f (by erw[Ak]<;>lia) (.int ys.length,H,I.tok _,(s.toks+1,by rw[Ak,c]),q)
def E8:S3 X (.builtin "len") (λxs H Q=>∃z,xs=[.str z]/\z.length<=sizeLine/\Q (.int z.length) H):=by intro c s d H xs e Q I r h;let(z,rfl,f,q):=h;let(u,rfl,t,rfl):=Oa r;have g:=Py;show len_str 'o' (.int z.length,H,I.tok _,(_,rfl),q)
def Jq:S3 X (.type "tuple") (λxs H Q=>∃p ys,xs=[.ref p]/\((SqL X.K H p ys/\∀l,H l=none->Q (.ref l) (upd H l (.tup ys)))\/(SqT X.K H p ys/\Q (.ref p) H))):=by
 intro c s k H xs z Q I r h;let(p,ys,rfl,h):=h;let(u,rfl,v):=Oa r;cases v;rcases h with⟨j,q⟩|⟨j,q⟩
 .let(d,g,i,m):=I.list j;have n:=g.length;show call_tuple_list i.isList (λf x=>?_) (by erw[Ak]<;>lia);have t:Inv X c k H {s with heap:=f}:=I.kept (t':=s.toks) x;have y:Inv X c k (upd H f.objs.size (.tup ys)) {s with heap:=f.push {cls:= .type "tuple",data:= .seq d.toArray}}:=
   t.laid (t':=s.toks) (λb o e=>Ap _ e) (na _) (show Yw X.prog X.w _ _ _ (.tup ys) from(m,d,g,IsTup.new _ _))
  show(.ref f.objs.size,_,y,rfl,q _ (t.hok.fresh (na _)))
 .let(d,g,i,m):=I.tuple j;show call_tuple_same i (.ref p,H,I,rfl,q)
def tyV(K:Aa)(T:String)(x:V)(H:Hp):Prop:=match x with
 | .str _=>T="str"
 | .int _=>T="int"
 | .ref p=>(T="list"/\∃d,SqL K H p d)\/(T="tuple"/\∃o,K.lookup p=some o/\o.cls= .type "tuple"/\o.dict=none)\/
   (T="dict"/\((∃c,H p=some (.dK c))\/∃c,H p=some (.dT c)))\/(T="set"/\∃S n,H p=some (.set S n))
 | _=>False
def Y22{q:St}{H:Hp}{s:Ub}{T:String}{x:V}{v:Ua}(I:Inv X pins q H s)(r:RelV x v)(g:tyV X.K T x H):
  s.TypeIs v T/\∀a,v= .ref a->∃m,s.heap.get? a=some m/\m.dict=none:=by
 cases x with
 | str z=>let(t,rfl):=r;cases (show T="str" from g);show(typeIs_str s z t,λ_ e=>nomatch e)
 | int i=>let(t,rfl):=r;cases (show T="int" from g);show(typeIs_int s i t,λ_ e=>nomatch e)
 | ref p=>
  cases r;rcases g with⟨rfl,A,w⟩|⟨rfl,o,d,y,j⟩|⟨rfl,d⟩|⟨rfl,S,n,d⟩
  .let(u,_,l,_):=I.list w;show(l.isList.typeIs,λa e=>?_);cases e;let(o,n,e,c,j,_):=l;show(o,e,j)
  .refine((o,I.kIn p o d,y),λa e=>?_);cases e;show(o,I.kIn _ o d,j)
  .have z:∃o,s.heap.get? p=some o/\o.ExactDict:=by
    rcases d with⟨h,d⟩|⟨h,d⟩
    .let(_,_,_,_,o,_,_,e,f,_):=I.hok p _ d;show(o,e,f)
    .let(_,_,_,_,o,_,_,e,f,_):=I.hok p _ d;show(o,e,f)
   let(o,e,f):=z;show((o,e,f.1),λa k=>?_);cases k;show(o,e,f.2.1)
  .let(o,_,_,_,e,f,_):=I.hok p _ d;show((o,e,f.1),λa k=>?_);cases k;show(o,e,f.2.1)
 | _=>show Az g
def tBM0(K:Aa)(T:String)(r:V->LV->Hp->VK->Prop)(e:TE):TE:=λd H Q=>e d H λx c=>tyV K T x c/\r x [] c Q
def tBM(K:Aa)(T:String)(r:V->LV->Hp->VK->Prop)(f:TE)(t:TA):TE:=λc H Q=>f c H λx d=>tyV K T x d/\t c d λe g=>r x e g Q
variable{o e:Expr}{es:List Expr}{to:TE}{t:TA}{name:Str}{apos cpos:Pos}{T id:String}{r:V->LV->Hp->VK->Prop}
def Yr5(q:PlainAttrs T)(g:Slot T name id)(i:typeOf (.builtin id)=pure (.type "method_descriptor"))(w:MtR X id r)(u:PE X o to)
  (f:attributeBase o name X.env (eval o X.env)=eval o X.env:=by rfl) (d:(apos.endLine==cpos.line)=true:=by rfl):PE X (.Call (.Attribute o name apos) [] [] cpos) (tBM0 X.K T r to):=by
 intro c s j H Q I h;show wpAny_Call_method0_late f d (thn (u c s j H _ I h) λv n zz=>?_);let(x,A,l,k,m,p):=zz;let(z,y):=Y22 l k m;show(T,id,q,g,i,z,y,Calls.callWith_builtin rfl (PySem.evalArgs_none (w c n j A x [] v [] Q l k .nil p)))
def Yw9(E:PlainAttrs T)(i:Slot T name id)(l:typeOf (.builtin id)=pure (.type "method_descriptor"))(J:MtR X id r)(G:PE X o to)(L:PA X (e::es) t)
  (g:attributeBase o name X.env (eval o X.env)=eval o X.env:=by rfl)
  (j:((backTo cpos (starEach (e::es) X.env)).all (λx=> !x.1)&&(backToKw cpos (keywordEach [] X.env)).all (λx=>x.1.isSome)
   &&decide ((e::es).length+([]:List Keyword).length+(if ([]:List Keyword).isEmpty then 0 else 1)<30))=true:=by rfl)
  (f:(apos.endLine==cpos.line)=true:=by rfl) (F:starEach (e::es) X.env=#v[false,eval e X.env]::starEach es X.env:=by rfl) (d:(backTo cpos (starEach es X.env)).any (·.1)=false:=by rfl):
  PE X (.Call (.Attribute o name apos) (e::es) [] cpos) (tBM X.K T r to t):=by
 intro c s k H Q I h;show wpAny_Call_method_late g j f rfl (thn (G c s k H _ I h) λv A zz=>?_);let(x,R,q,n,y,D):=zz;let(N,M):=Y22 q n y;show(T,id,E,i,l,N,M,?_);have p:=L cpos c A k R _ q D;rw[F] at p |-;show Calls.callWith_builtin (by show(false || (backTo cpos (starEach es X.env)).any (·.1))=false;rw[d]<;>rfl) (Calls.evalArgs_plain ?_);show thn p λw z zz=>by let(u,P,O,B,C):=zz;show J c z k P x u v w Q O n B C
end
def MtM(X:Cx)(id:String)(r:V->LV->Hp->VK->Prop):Prop:=
 ∀(a:PLO) (s:Ub) (b:St) (H:Hp) (x:V) (c:LV) (v:Ua) (d:LW) (Q:VK),Inv X a b H s->RelV x v->Vals c d->r x c H Q->
  ⇑X (call (.builtin id) (v::d)) (EP X a b Q) X.xe s
def Vals.one:∀{x:V} {us:LW},Vals [x] us->∃u,us=[u]/\RelV x u:=by
 intro x us h;cases h with
 | cons r t=>cases t;show(_,rfl,r)
def Vals.zero:∀{us:LW},Vals [] us->us=[]
 | _,.nil=>rfl
def Vals.dropLast(h:Vals xs us):Vals xs.dropLast us.dropLast:=by
 induction h with
 | nil=>show .nil
 | cons r t a=>
  cases t with
  | nil=>show .nil
  | cons q b=>show .cons r a
def Vals.eraseIdx:∀{xs:LV} {us:LW} (i:Nat),Vals xs us->Vals (xs.eraseIdx i) (us.eraseIdx i)
 | _,_,_,.nil=> .nil
 | _,_,0,.cons _ t=>t
 | _,_,i+1,.cons r t=> .cons r (Vals.eraseIdx i t)
def Vals.reverse(h:Vals xs us):Vals xs.reverse us.reverse:=by
 induction h with
 | nil=>show .nil
 | cons r t a=>rw[Km,Km];show Vals.append a (.cons r .nil)
def Vals.rep(h:Vals xs us):∀k:Nat,Vals (Ds k xs).flatten (Ds k us).flatten
 | 0=> .nil
 | k+1=>by rw[Ih,Ih,Kn,Kn];show Vals.append h (Vals.rep h k)
def Z73{c:Type}(l:List c):l.eraseIdx (l.length - 1)=l.dropLast:=by
 induction l with
 | nil=>rfl
 | cons a r d=>
  cases r with
  | nil=>rfl
  | cons b r=>
   have e:(a::b::r).length - 1=((b::r).length - 1)+1:=by have g:(a::b::r).length=r.length+2:=rfl;have f:(b::r).length=r.length+1:=rfl;lia
   rw[e,List.eraseIdx_cons_succ,d]
   all_goals rfl
def F0{a:Type}:∀(l:List a) (i:Nat),(l.eraseIdx i).length<=l.length
 | [],_=>na _
 | _::_,0=>md _
 | _::r,i+1=>Nat.succ_le_succ (F0 r i)
def Gf(its:LW):∀(k:Nat) (a:LW),
  List.foldl (λc b=>c++b) a.toArray (Ds k its.toArray)=(a++(Ds k its).flatten).toArray
 | 0,a=>by simp
 | k+1,a=>by
  have e:a.toArray++its.toArray=(a++its).toArray:=by simp
  have d:(a++its)++(Ds k its).flatten=a++(Ds (k+1) its).flatten:=by rw[Ih,Kn,An]
  rw[<-d,<-Gf its k (a++its),<-e,Ih,Le]
section
variable{X:Cx}{pins:PLO}{σ:St}{H:Hp}{s:Ub}{l b:Uc}{xs ys zs:LV}
def Inv.lset{its its':LW}{n:Nat}{f:Array Ua->Array Ua}{t':Nat}(I:'v')(i:H l=some (.lst xs))
  (e:s.heap.get? l=some {cls:= .type "list",data:= .seq its.toArray n}) (g:f its.toArray=its'.toArray) (c:Vals ys its') (a:ys.length<=sizeLine):
  Inv X pins σ (upd H l (.lst ys)) {s with heap:=s.heap.update l (Iu f),toks:=t'}:=by
 have q:=PySem.IsL.update e f;rw[g] at q;show I.write (x:=l) (e:=l) (by rw[i];show trivial) (.inl rfl) (λj u h d=>(Kd s.heap (Iu f) (Av h)).trans d) (_,q) ?_;show(a,its',_,c,q)
def Inv.lnew(I:'v')(a:Vals ys its)(hz:ys.length<=sizeLine):
  Inv X pins σ (upd H s⁻¹ (.lst ys)) {s with heap:=s.heap.push {cls:= .type "list",data:= .seq its.toArray},toks:=t'}:=
 I.laid (λ_ _ q=>Ap _ q) (na _) (hz,its,0,a,Di _ rfl)
def Inv.fresh(I:'v'):H s⁻¹=none:=I.hok.fresh (na _)
def Inv.lstM(I:'v')(a:H l=some (.lst xs)):xs.length<=sizeLine/\∃(its:LW) (n:Nat),Vals xs its/\xs.length=its.length/\s.heap.get? l=some {cls:= .type "list",data:= .seq its.toArray n}:=by let(z,its,n,r,e):=I.hok l _ a;show(z,its,n,r,r.length,e)
def Nz{n:Nat}(h:n<=sizeLine):Hx n=false:=by ext Hx;show ma 'o'
end
section
variable{X:Cx}
def Yb0:V->LV->Hp->VK->Prop:=λx b H Q=>∃l a y,x= .ref l/\b=[y]/\H l=some (.lst a)/\a.length<sizeLine/\Q .non (upd H l (.lst (a++[y])))
def Gd:MtM X "list.append" Yb0:=by intro b s i H x k v m Q I d f h;let(l,j,y,rfl,rfl,c,o,q):=h;cases d;let(u,rfl,g):=f.one;let(z,a,n,r,p,e):=I.lstM c;show Lx F.slot_list_append (_,e,rfl) F.entry_list_append (F.args_list_append_2 _ _) (PySem.list_append l a.toArray n u (by rw[Ak];lia)) (e,?_);show(.non,_,I.lset (its':=a++[u]) c e 's' (r.append (.cons g .nil)) ?_,rfl,q);rw[Ac,Dg];lia
def Yf0:V->LV->Hp->VK->Prop:=λx d H Q=>∃l b c a,x= .ref l/\d=[.ref b]/\H l=some (.lst c)/\H b=some (.lst a)/\c.length+a.length<=sizeLine/\Q .non (upd H l (.lst (c++a)))
def Ze8:MtM X "list.extend" Yf0:=by
 intro g s A H x E v G Q I j k h;let(l,b,D,B,rfl,rfl,i,w,J,q):=h;cases j;let(u,rfl,m):=k.one;cases m;let(z,c,n,r,K,e):=I.lstM i;let(C,a,p,o,t,y):=I.lstM w;have f:c.toArray.size+a.toArray.size<=sizeLine:=by rw[Ak,Ak];lia
 have d:¬(!c.toArray.isEmpty&&Hx (c.toArray.size+a.toArray.size))=true:=by rw[Nz f,Bool.and_false];show Bf9
 show Lx F.slot_list_extend (_,e,rfl) F.entry_list_extend (F.args_list_extend_2 _ _)
  (AutoSeq1.list_extend_list_list_0 l c.toArray n b a.toArray p d (by rw[Ak];lia) 'o') (e,y,?_)
 show(.non,_,I.lset (its':=c++a) i e 's' (r.append o) ?_,rfl,q);rw[Ac];lia
def rPop:V->LV->Hp->VK->Prop:=λx b H Q=>∃l a y,x= .ref l/\b=[]/\H l=some (.lst a)/\a[a.length - 1]?=some y/\Q y (upd H l (.lst a.dropLast))
def Ys1:MtM X "list.pop" rPop:=by
 intro d s p H x w v A Q I g i h;let(l,t,y,rfl,rfl,f,k,q):=h;cases g;have c:=i.zero;subst c;let(z,a,n,r,o,e):=I.lstM f;let(u,m,j):=r.get k;have b:a.toArray[a.toArray.size - 1]?=some u:=by change a.toArray[a.length - 1]?=some u;rw[<-Array.getElem?_toList,<-o];show m
 show Lx F.slot_list_pop (_,e,rfl) F.entry_list_pop (F.args_list_pop_1 _) (MeetsSeq.list_pop_last l a.toArray n u b (by rw[Ak];lia)) (e,?_);show(y,_,I.lset (its':=a.dropLast) f e ?_ r.dropLast ?_,j,q)
 .change a.toArray.eraseIdxIfInBounds (a.toArray.size - 1)=a.dropLast.toArray;rw[Ak,List.eraseIdxIfInBounds_toArray,Z73]
 .rw[List.length_dropLast];lia
def Yr6:V->LV->Hp->VK->Prop:=λx b H Q=>∃l a i k y,x= .ref l/\b=[.int i]/\H l=some (.lst a)/\ -(2 ^ 63)<=i/\i<2 ^ 63/\seqIndex? i a.length=some k/\a[k]?=some y/\Q y (upd H l (.lst (a.eraseIdx k)))
def Zs5:MtM X "list.pop" Yr6:=by
 intro c s E H x G v J Q I g j h;let(l,f,i,k,y,rfl,rfl,d,D,C,B,o,q):=h;cases g;let(u,rfl,m):=j.one;let(t,rfl):=m;let(z,a,n,r,A,e):=I.lstM d;let(w,p,b):=r.get o;show Lx F.slot_list_pop (_,e,rfl) F.entry_list_pop (F.args_list_pop_2 _ _)
  (MeetsSeq.list_pop_at l a.toArray n i t k w (fitsIndex_both D C) (by rw[Ak,<-A];show B) (by rw[<-Array.getElem?_toList];show p) (by rw[Ak];lia)) (e,?_)
 show(y,_,I.lset (its':=a.eraseIdx k) d e ?_ (r.eraseIdx k) ?_,b,q)
 .change a.toArray.eraseIdxIfInBounds k=(a.eraseIdx k).toArray;rw[List.eraseIdxIfInBounds_toArray]
 .have:=F0 f k;lia
def rCat:R2:=λx y H Q=>∃l b c a,x= .ref l/\y= .ref b/\H l=some (.lst c)/\H b=some (.lst a)/\c.length+a.length<=sizeLine/\∀p,H p=none->Q (.ref p) (upd H p (.lst (c++a)))
def Ym4:OpR X (binaryOp .Add) rCat:=by
 intro d s t H x y v u Q I g f h;let(l,b,B,w,rfl,rfl,k,m,D,q):=h;cases g;cases f;let(z,c,n,r,E,e):=I.lstM k;let(A,a,C,i,j,p):=I.lstM m;show PySem.P.add_list e p ?_ (by rw[Ak,Ak];lia);have o:c.toArray++a.toArray=(c++a).toArray:=by simp
 rw[o];show(.ref _,_,I.lnew (t':=s.toks) (r.append i) (by rw[Ac];lia),rfl,q _ I.fresh)
def rRep:R2:=λx y H Q=>∃l k a,x= .ref l/\y= .int k/\H l=some (.lst a)/\ -(2 ^ 63)<=k/\k<2 ^ 63/\a.length * k.toNat<=sizeLine/\
 ∀p,H p=none->Q (.ref p) (upd H p (.lst (Ds k.toNat a).flatten))
def Yb3{a:Type}(xs:List a)(k:Nat):(Ds k xs).flatten.length=k * xs.length:=by
 induction k with
 | zero=>simp
 | succ k b=>rw[Ih,Kn,Ac,b,Nat.succ_mul,Nat.add_comm]
def Yl2:OpR X (binaryOp .Mult) rRep:=by
 intro pins s σ H x y v u Q I rx ry h;let(l,k,xs,rfl,rfl,hH,h1,h2,hz,q):=h;cases rx;let(t,rfl):=ry;let(z,its,n,r,hl,e):=I.lstM hH;have hlen:its.toArray.size * k.toNat<=sizeLine:=by rw[Ak,<-hl];show hz
 have hcap:¬its.toArray.size * k.toNat >(2 ^ 63 - 1) / 8:=by have:(sizeLine:Nat)<=(2 ^ 63 - 1) / 8:='d';lia
 have hfit:¬(!Builtin.List.listFitsIndex k)=true:=by rw[fitsIndex_both h1 h2];show Bf9
 have hlong:¬Hx (its.toArray.size * k.toNat)=true:=by rw[Nz hlen];show Bf9
 have hnew:List.foldl (λx1 x2=>x1++x2) #[] (Ds (if its.toArray.isEmpty=true then 0 else k.toNat) its.toArray)=(Ds k.toNat its).flatten.toArray:=by
  have f0:∀m:Nat,List.foldl (λx1 x2=>x1++x2) #[] (Ds m its.toArray)=(Ds m its).flatten.toArray:=λm=>by have:=Gf its m [];rwa[Ho] at this
  rw[f0];cases its with
  | nil=>simp
  | cons a r'=>rw[nb 's']
 show wpAny_binaryOp_repeat_ref (T:="list") (U:="int") 'd' (_,e,rfl) (λs'=>typeIs_int s' k t) noFill_list_mul F.fills_int_mul F.slot_int_rmul repeat_list F.slot_int_index.lookup
  (Lx F.slot_int_rmul (typeIs_int s k t) F.entry_int_rmul (F.args_int_rmul_2 _ _) (int___rmul___int_list k t l its.toArray n)
   (e,rfl,(_,e,rfl),Lx F.slot_list_mul (_,e,rfl) F.entry_list_mul (F.args_list_mul_2 _ _) (AutoListH.list___mul___list_int_3 l its.toArray n k t hfit hcap hlong) (e,?_)))
 rw[hnew];show(.ref _,_,I.lnew (t':=s.toks) (r.rep k.toNat) (by rw[Yb3,Nat.mul_comm];show hz),rfl,q _ I.fresh)
end
section
variable{κ:Type}[DecidableEq κ]
def valV(kvs:List (κ×V))(k:κ):Option V:=(kvs.find? λa=>decide (a.1=k)).map (·.2)
def putK(kvs:List (κ×V))(k:κ)(v:V):List (κ×V):=
 if (kvs.any λa=>decide (a.1=k))=true then kvs.map (λa=>if a.1=k then#v[a.1,v] else a) else kvs++[#v[k,v]]
def Jj{p:κ×V}{k:κ}(e:p.1=k):valV (p::r) k=some p.2:=by simp[valV,Hq,e]
def Jp{p:κ×V}{k:κ}(e:¬p.1=k):valV (p::r) k=valV r k:=by simp[valV,Hq,e]
def Z33(k:κ):∀kvs:List (κ×V),(kvs.any λa=>decide (a.1=k))=(valV kvs k).isSome
 | []=>rfl
 | p::r=>by
  rw[Ax];by_cases e:p.1=k
  .simp only[Jj e,decide_eq_true e,Bool.true_or,Option.isSome_some]
  .rw[Jp e,ma e,Bool.false_or];show Z33 k r
def Tz(kvs:List (κ×V))(k:κ)(v:V):(putK kvs k v).length<=kvs.length+1:=by
 ext putK;split
 .rw[Al];lia
 .rw[Ac,Af,Dy];lia
def RelO.isSome_eq(r:RelO o u):o.isSome=u.isSome:=by
 cases o with
 | none=>cases u with
  | none=>rfl
  | some _=>show(show False from r).elim
 | some _=>cases u with
  | none=>show(show False from r).elim
  | some _=>rfl
def KV.val(r:KV kvs vs)(k:κ):RelO (valV kvs k) (valueAt vs k):=by
 ext r KV;induction r with
 | nil=>show Kc
 | @cons p q i a h t f=>
  let(d,g):=h;by_cases e:p.1=k
  .have c:q.1=k:=d.symm.trans e;have b:valueAt (q::a) k=some q.2:=by simp[valueAt,Hq,c]
   rw[Jj e,b];show g
  .have c:¬q.1=k:=λz=>e (d.trans z);have b:valueAt (q::a) k=valueAt a k:=by simp[valueAt,Hq,c]
   rw[Jp e,b];show f
def KV.any(r:KV kvs vs)(k:κ):(kvs.any λa=>decide (a.1=k))=vs.any λa=>decide (a.1=k):=by
 ext r KV;induction r with
 | nil=>rfl
 | cons h t b=>rw[Ax,Ax,b,h.1]
def KV.repl(r:KV kvs vs)(k:κ)(c:RelV y u):
  KV (kvs.map λa=>if a.1=k then#v[a.1,y] else a) (vs.map λa=>if a.1=k then#v[a.1,u] else a):=by
 unfold KV at r |-;induction r with
 | nil=>show .nil
 | @cons p q i g h t d=>
  rw[Aj,Aj];show .cons ?_ d;let(b,f):=h;by_cases e:p.1=k
  .rw[nc e,nc (b.symm.trans e)];show(b,c)
  .rw[nb e,nb (λz=>e (b.trans z))];show(b,f)
def KV.put(r:KV kvs vs)(k:κ)(a:RelV y u):KV (putK kvs k y) (stored vs k u):=by
 unfold putK stored;rw[r.any k];by_cases e:(vs.any λb=>decide (b.1=k))=true
 .rw[nc e,nc e];show r.repl k a
 .rw[nb e,nb e];show Paired.snoc r (rfl,a)
def KV.length(r:KV kvs vs):kvs.length=vs.length:=Paired.length r
end
def Z95{w:Ue}{k:Key}(r:RelV (kV k) u):(Yn P w).is k u=true:=by
 cases k with
 | inl i=>let(t,e):=(show ∃t,u=Value.int i t from r);subst e;show Cj P w i t
 | inr x=>let(t,e):=(show ∃t,u=Md x t from r);subst e;show C8 P w x t
def Fu{w:Ue}:∀{ks:List Key} {us:LW},Vals (ks.map kV) us->ItemsAre (Yn P w) ks us
 | [],_,r=>by rw[Dz] at r;cases r;show .nil
 | k::ks,_,r=>by
  rw[Aj] at r;cases r with
  | cons h t=>show .cons (Z95 h) (Fu t)
abbrev KT(H:Hp):List (List Key×V)->List (List Key×Uc×Ua)->Prop:=Paired λp q=>p.1=q.1/\H q.2.1=some (.tup (p.1.map kV))/\RelV p.2 q.2.2
def KT.val{H:Hp}(r:KT H kvs xs)(k:List Key):RelO (valV kvs k) ((atKey xs k).map (·.2)):=by
 induction r with
 | nil=>show Kc
 | @cons p q i a h t f=>
  let(d,_,g):=h;by_cases e:p.1=k
  .have c:q.1=k:=d.symm.trans e;have b:atKey (q::a) k=some q.2:=by simp[atKey,Hq,c]
   rw[Jj e,b];show g
  .have c:¬q.1=k:=λz=>e (d.trans z);have b:atKey (q::a) k=atKey a k:=by simp[atKey,Hq,c]
   rw[Jp e,b];show f
def KT.repl{H:Hp}(r:KT H kvs xs)(k:List Key)(d:RelV y u):
  KT H (kvs.map λb=>if b.1=k then#v[b.1,y] else b) (xs.map (putAt k u)):=by
 induction r with
 | nil=>show .nil
 | @cons p q j i h t f=>
  rw[Aj,Aj];show .cons ?_ f;let(a,c,g):=h;ext putAt;by_cases e:p.1=k
  .rw[nc e,nc (a.symm.trans e)];show(a,c,d)
  .rw[nb e,nb (λz=>e (a.trans z))];show(a,c,g)
def KT.put{H:Hp}(r:KT H kvs xs)(k:List Key){b:Uc}(d:H b=some (.tup (k.map kV)))(a:RelV y u):
  KT H (putK kvs k y) (storedH xs k b u):=by
 have e:(kvs.any λc=>decide (c.1=k))=(atKey xs k).isSome:=by rw[Z33,(r.val k).isSome_eq,Option.isSome_map]
 unfold putK storedH;rw[e];by_cases q:(atKey xs k).isSome=true
 .rw[nc q,nc q];show r.repl k a
 .rw[nb q,nb q];show Paired.snoc r (rfl,d,a)
def KT.keeps{H H':Hp}(r:KT H kvs xs)(a:∀b ys,H b=some (.tup ys)->H' b=some (.tup ys)):KT H' kvs xs:=
 Paired.mapP r λ_ _ z=>(z.1,a _ _ z.2.1,z.2.2)
section
variable{P:Ud}{w:Ue}{H:Hp}{h:Uf}{a:Uc}
def Yr4(b:HOk P w H h)(e:Rd H a u):Yw P w H h a u:=e.ok b
def Cw(b:HOk P w H h)(e:Rd H a (.dK kvs)):kvs.length<=sizeLine/\(a==sysModules)=false/\∃vs,KV kvs vs/\h.DictOf (Yn P w) a vs:=
 show Yw P w H h a (.dK kvs) from Yr4 b e
def Yv3(b:HOk P w H h)(e:H a=some (.dK kvs)):kvs.length<=sizeLine/\(a==sysModules)=false/\∃vs,KV kvs vs/\h.DictOf (Yn P w) a vs:=Cw b (.inl e)
def Gv{ks:List Key}(c:HOk P w H h)(e:H a=some (.tup (ks.map kV))):(tupleKind (Yn P w)).is h ks a:=by let(_,b,r,o,g,f,n,d):=(show Yw P w H h a (.tup (ks.map kV)) from c a _ e);show(o,b.toArray,n,g,f,d,by simpa using Fu r)
def Zi6(d:HOk P w H h)(e:Rd H a (.dT kvs)):kvs.length<=sizeLine/\(a==sysModules)=false/\
  ∃xs,KT H kvs xs/\h.DictOfH (tupleKind (Yn P w)) a xs:=by
 let(z,y,xs,r,o,u,v,s,n,k,j,i):=(show Yw P w H h a (.dT kvs) from Yr4 d e);show(z,y,xs,r,o,u,v,s,n,k,j,λx b=>?_,i);have c:∀{l:List (List Key×V)} {m:List (List Key×Uc×Ua)},KT H l m->∀x∈m,(tupleKind (Yn P w)).is h x.1 x.2.1:=by
  intro l m q;induction q with
  | nil=>intro x b;show nomatch b
  | @cons p q B A f t g=>
   intro x b;rcases Ab.mp b with e|b
   .subst e;show Gv d (by rw[<-f.1];show f.2.1)
   .show g x b
 show c r x b
def Yy8(b:HOk P w H h)(e:H a=some (.dT kvs)):kvs.length<=sizeLine/\(a==sysModules)=false/\
  ∃xs,KT H kvs xs/\h.DictOfH (tupleKind (Yn P w)) a xs:=Zi6 b (.inl e)
end
def DGet(H:Hp)(a:Uc)(y:V)(r:Option V):Prop:=
 (∃c k,Rd H a (.dK c)/\y=kV k/\r=valV c k)\/∃c k b,Rd H a (.dT c)/\y= .ref b/\H b=some (.tup (k.map kV))/\r=valV c k
def DPut(H:Hp)(a:Uc)(y v:V)(H':Hp):Prop:=
 (∃c k,H a=some (.dK c)/\y=kV k/\c.length<sizeLine/\H'=upd H a (.dK (putK c k v)))\/
 ∃c k b,H a=some (.dT c)/\y= .ref b/\H b=some (.tup (k.map kV))/\c.length<sizeLine/\H'=upd H a (.dT (putK c k v))
def DGet.k{H:Hp}{a:Uc}{k:Key}(e:H a=some (.dK kvs)):DGet H a (kV k) (valV kvs k):= .inl (kvs,k,.inl e,rfl,rfl)
def DGet.t{H:Hp}{a b:Uc}{k:List Key}(e:H a=some (.dT kvs))(c:H b=some (.tup (k.map kV))):DGet H a (.ref b) (valV kvs k):= .inr (kvs,k,b,.inl e,rfl,c,rfl)
def DPut.k{H:Hp}{a:Uc}{k:Key}{v:V}(e:H a=some (.dK kvs))(b:kvs.length<sizeLine):DPut H a (kV k) v (upd H a (.dK (putK kvs k v))):= .inl (kvs,k,e,rfl,b,rfl)
def DPut.t{H:Hp}{a b:Uc}{k:List Key}{v:V}(e:H a=some (.dT kvs))(d:H b=some (.tup (k.map kV)))(c:kvs.length<sizeLine):
  DPut H a (.ref b) v (upd H a (.dT (putK kvs k v))):= .inr (kvs,k,b,e,rfl,d,c,rfl)
section
variable{X:Cx}{pins:PLO}{σ:St}{H:Hp}{s:Ub}{a:Uc}{y v:V}{u r:Ua}{o:Option V}{A:Around}{E:VSP}
def Inv.big(I:'v'):sysModules<s⁻¹:=by have h:mainGlobals<s⁻¹:=(I.mod.glob.keeps I.bk).lt;show Nat.lt_trans 'd' h
def Zm6(C:A.units+1<cLine)(I:'v')(g:DGet H a y (some v))(t:RelV y u)(h:∀f s',Inv X pins σ H s'->RelV v f->Q f s'):
  wpAny (model X.prog X.w) A (getItem (.ref a) u) Q E s:=by
 rcases g with⟨i,k,e,n,l⟩|⟨i,k,b,e,n,G,l⟩
 .subst n;let(z,F,B,d,q):=Cw I.hok e;let(f,j,c):=RelO.some_of (v:=v) (o:=valueAt B k) (by rw[l];show d.val k);show wpAny_getItem_of (Z95 t) q.mapOf j (h f _ (I.tok _) c)
 .subst n;cases (show u=Ay b from t);let(z,F,x,d,q):=Zi6 I.hok e;let(f,j,c):=RelO.some_of (v:=v) (o:=(atKey x k).map (·.2)) (by rw[l];show d.val k);let(p,D,m):=Lh.mp j;show wpAny_getItem_heap (tupleKind_room_in1 C) (Gv I.hok G) q D ?_;rw[m];show h f _ (I.tok _) c
def d_in(n:A.units+1<cLine)(I:'v')(g:DGet H a y o)(m:RelV y u)(h:∀s',Inv X pins σ H s'->Q (.bool o.isSome) s'):
  wpAny (model X.prog X.w) A (compareOp .In u (.ref a)) Q E s:=by
 rcases g with⟨d,k,e,i,l⟩|⟨d,k,b,e,i,p,l⟩
 .subst i;let(z,f,x,c,j):=Cw I.hok e;show wpAny_in_of (Z95 m) f j.mapOf ?_;rw[<-(c.val k).isSome_eq,<-l];show h _ (I.tok _)
 .subst i;cases (show u=Ay b from m);let(z,f,t,c,j):=Zi6 I.hok e;show wpAny_in_heap (tupleKind_room_in1 n) (Gv I.hok p) f j ?_;have q:=(c.val k).isSome_eq;rw[Option.isSome_map] at q;rw[<-q,<-l];show h _ (I.tok _)
def Zc4(n:A.units+1<cLine)(I:'v')(g:DGet H a y o)(m:RelV y u)(h:∀s',Inv X pins σ H s'->Q (.bool (!o.isSome)) s'):
  wpAny (model X.prog X.w) A (compareOp .NotIn u (.ref a)) Q E s:=by
 rcases g with⟨d,k,e,i,l⟩|⟨d,k,b,e,i,p,l⟩
 .subst i;let(z,f,x,c,j):=Cw I.hok e;show wpAny_notIn_of (Z95 m) f j.mapOf ?_;rw[<-(c.val k).isSome_eq,<-l];show h _ (I.tok _)
 .subst i;cases (show u=Ay b from m);let(z,f,t,c,j):=Zi6 I.hok e;show wpAny_notIn_heap (tupleKind_room_in1 n) (Gv I.hok p) f j ?_;have q:=(c.val k).isSome_eq;rw[Option.isSome_map] at q;rw[<-q,<-l];show h _ (I.tok _)
def Zn2{c:HO}(I:'v')(f:Mut (H a))(g:Me a s.heap h')(h:∃q,h'.get? a=some q)(d:Yw X.prog X.w (upd H a c) h' a c):
  Inv X pins σ (upd H a c) {s with heap:=h',toks:=t'}:=
 I.write (x:=a) (e:=a) f (.inl rfl) (λb q i z=>(g.2 b i).trans z) h d
def Zc8{w:Ue}(z:kvs.length<=sizeLine)(hd:(a==sysModules)=false)(b:KV kvs vs)(c:h'.DictOf (Yn P w) a vs):
  Yw P w H' h' a (.dK kvs):=(z,hd,vs,b,c)
def Zk9(N:A.units+1<cLine)(I:'v')(g:DPut H a y v H')(D:RelV y u)(F:RelV v r)(h:∀s',Inv X pins σ H' s'->Q () s'):
  wpAny (model X.prog X.w) A (setItem (.ref a) u r) Q E s:=by
 rcases g with⟨f,k,e,x,l,B⟩|⟨f,k,b,e,x,K,l,B⟩
 .subst x B;let(z,t,M,d,C):=Yv3 I.hok e;have m:M.length<=sizeLine:=by rw[<-d.length];show z
  have p:(putK f k v).length<=sizeLine:=by have:=Tz f k v;lia
  show wpAny_setItem_pairs (hsz:=m) (Z95 D) C λG i n=>h _ ?_;have O:∃q,G.get? a=some q:=by let(q,_,_,j,_):=i;show(q,j)
  show Zn2 I (by rw[e];show Kc) n O (Zc8 p t (d.put k F) i)
 .subst x B;cases (show u=Ay b from D);let(z,t,L,d,C):=Yy8 I.hok e;have m:L.length<=sizeLine:=by rw[<-Paired.length d];show z
  have p:(putK f k v).length<=sizeLine:=by have:=Tz f k v;lia
  show wpAny_setItem_heap (hsz:=m) (tupleKind_room_in1 N) (Gv I.hok K) C λG i n=>h _ ?_;let(q,U,V,j,T,S,R,_,P):=i;show Zn2 I (by rw[e];show Kc) n (q,j) (p,t,_,(d.put k K F).keeps λc W J=>?_,q,U,V,j,T,S,R,P);rw[Z7 (Yy3 J e (λz=>nomatch z))];show J
end
section
variable{X:Cx}{pins:PLO}{σ:St}{H:Hp}{s:Ub}{a:Uc}{kvs:List (Key×V)}{k:Key}{u:Ua}{A:Around}{E:VSP}
def Yv2(I:'v')(e:Rd H a (.dK kvs))(h:∀t s',Inv X pins σ H s'->Q (.int kvs.length t) s'):wpAny (model X.prog X.w) A (call (.builtin "len") [.ref a]) Q E s:=by let(z,c,f,b,d):=Cw I.hok e;show call_len_dict c d (by rw[<-b.length];rw[Lf] at z;lia) ?_;rw[<-b.length];show h _ _ (I.tok _)
end
def Cb{f:St}{H:Hp}{s:Ub}{a:Uc}(I:Inv X pins f H s)(g:DGet H a y o):s.TypeIs (.ref a) "dict":=by
 rcases g with⟨c,k,e,_,_⟩|⟨c,k,b,e,_,_,_⟩
 .let(_,_,i,_,d):=Cw I.hok e;show d.typeIs
 .let(_,_,h,_,d):=Zi6 I.hok e;show d.typeIs
def Zt0{w:Ue}{H:Hp}(h:Uf)(a:sysModules<h.objs.size):Yw P w H (h.push {cls:= .type "dict",data:= .dict #[]}) h.objs.size (.dK []):=
 (nj _,beq_eq_false_iff_ne.mpr (Av (ni a)),[],.nil,Heap.DictOf.new h)
def Zq5{w:Ue}{H:Hp}(h:Uf)(a:sysModules<h.objs.size):Yw P w H (h.push {cls:= .type "dict",data:= .dict #[]}) h.objs.size (.dT []):=
 (nj _,beq_eq_false_iff_ne.mpr (Av (ni a)),[],.nil,_,#[],0,Di _ rfl,(rfl,rfl,rfl),rfl,rfl,Io)
def Yp5:TE:=λ_ H Q=>∀p,H p=none->Q (.ref p) (upd H p (.dK []))
def Yq1:TE:=λ_ H Q=>∀p,H p=none->Q (.ref p) (upd H p (.dT []))
section
variable{X:Cx}{pos:Pos}
def Zs3:PE X (.Dict [] [] pos) Yp5:=λb s c H Q I h=>
 wpAny_Dict_empty (.ref s⁻¹,_,I.laid (a:=s⁻¹) (o:= .dK []) (t':=s.toks) (λ_ _ q=>Ap _ q) (na _) (Zt0 s.heap I.big),rfl,h _ (I.hok.fresh (na _)))
def Zu0:PE X (.Dict [] [] pos) Yq1:=λb s c H Q I h=>
 wpAny_Dict_empty (.ref s⁻¹,_,I.laid (a:=s⁻¹) (o:= .dT []) (t':=s.toks) (λ_ _ q=>Ap _ q) (na _) (Zq5 s.heap I.big),rfl,h _ (I.hok.fresh (na _)))
end
structure M1(X:Cx)(o:Expr)(m:Str)(apos:Pos)(e:Expr)(cpos:Pos):Prop where
 base:attributeBase o m X.env (eval o X.env)=eval o X.env
 few:((backTo cpos (starEach [e] X.env)).all (λx=> !x.1)&&(backToKw cpos (keywordEach [] X.env)).all (λx=>x.1.isSome)
  &&decide (([e]:List Expr).length+([]:List Keyword).length+(if ([]:List Keyword).isEmpty then 0 else 1)<30))=true
 line:(apos.endLine==cpos.line)=true
 trees:backTo cpos (starEach [e] X.env)=[#v[false,eval e X.env]]
structure M2(X:Cx)(o:Expr)(m:Str)(apos:Pos)(e f:Expr)(cpos:Pos):Prop where
 base:attributeBase o m X.env (eval o X.env)=eval o X.env
 few:((backTo cpos (starEach [e,f] X.env)).all (λx=> !x.1)&&(backToKw cpos (keywordEach [] X.env)).all (λx=>x.1.isSome)
  &&decide (([e,f]:List Expr).length+([]:List Keyword).length+(if ([]:List Keyword).isEmpty then 0 else 1)<30))=true
 line:(apos.endLine==cpos.line)=true
 trees:backTo cpos (starEach [e,f] X.env)=[#v[false,eval e X.env],#v[false,eval f X.env]]
section
variable{X:Cx}{pins:PLO}{σ:St}{H:Hp}{s:Ub}{a:Uc}{kvs:List (Key×V)}{A:Around}{E:VSP}
def Zz6(I:'v')(e:Rd H a (.dK kvs))(h:∀p s',H p=none->Inv X pins σ (upd H p (.dK kvs)) s'->Q (.ref p) s'):wpAny (model X.prog X.w) A (call (.type "dict") [.ref a]) Q E s:=by let(z,i,k,c,j):=Cw I.hok e;show kt_call_dict i j (by rw[<-c.length];show z) λl d g=>?_;show h _ _ (I.hok.fresh (na _)) (I.laid (a:=s⁻¹) (o:= .dK kvs) (t':=s.toks) (λb q f=>?_) (na _) (Zc8 z (beq_eq_false_iff_ne.mpr (Av (ni I.big))) c d));show(g.2 b (ni (Aw f))).trans (Ap _ f)
end
end L2
namespace Att
open PySem PySem.W PySem.Calls PyProof.Rows
def Pu{h:Uf}:∀(c:List Int) (vs:LW),WellAll P h vs (c.map WData.int)->IntsAre vs c:=by
 intro c;induction c with
 | nil=>intro vs w;rw[Dz] at w;cases w;show .nil
 | cons n c d=>
  intro vs w;rw[Aj] at w;cases w with
  | cons a b=>cases a;show .cons _ _ (d _ b)
def script_of{l:OpenLaw}{n:Nat}(v:l.most=some n){h:Uf}{c:LW}
  (e:l.row.toRowW.claim.pre args=true) (k:WellAll P h c args):
  ∃a vs b,c=[Ay a]/\args=[WData.list (b.map WData.int)]/\h.get? a=some {cls:= .type "list",data:= .seq vs.toArray}/\IntsAre vs b/\b.length<=n:=by
 have m:WShape.hasAll [] args [.list .int]=true:=(pre_splitW e).1;have o:l.pre.holds [] {args:=args}=true:=(pre_splitW e).2;let(d,r,rfl,y,x):=hasAllW_cons m;obtain rfl:=hasAllW_nil x;let(z,rfl,w):=hasW_list y;let(b,rfl):=items_int w;have f:b.length<=n:=by
  ext o OpenLaw.pre;have j:(WTm.not (.lt (.lit (.int (n:Int))) (.len (.arg 0)))).holds [] {args:=[.list (b.map .int)]}=true:=by have j:=(holds_andW o).1;rw[v] at j;show j
  have i:=condW_of j (w_not (w_lt w_lit (w_len_list (w_arg rfl))));rw[Al] at i;show Nat.le_of_not_lt λq=>?_;have t:(n:Int)< ((b.length:Nat):Int):='o'
  first
   |(rw[decide_eq_true t] at i;show absurd i 'd')
   |(simp at i;lia)
 cases k with
 | cons s p=>
  cases p;cases s with
  | list u g=>show(_,_,b,rfl,rfl,u,Pu b _ g,f)
def post_true(l:OpenLaw)(args:List WData):l.row.toRowW.claim.post args (.bool true) args=true:=
 postW_of (r:=l.row.toRowW) (X:=(true==true))
  (show WShape.has [] (.bool true) .bool=true by first | rfl | decide | simp[WShape.has,WShape.arms,WShape.armsAll])
  (show(WTm.eq .res (.lit (.bool true))).value [] {args:=args,res:=some (.bool true),after:=args}=some (.bool (true==true)) from w_eq_bool (w_res rfl) w_lit) rfl
end Att
namespace L2
open PySem PySem.Spec PyProof.Rows
def Sn:∀{vs:LW} {a:List Int},IntsAre vs a->Vals (a.map V.int) vs
 | _,_,.nil=> .nil
 | _,_,.cons n t h=> .cons (t,rfl) (Sn h)
def Only(H:Hp):Prop:=∀b,H b=none\/∃o a,H b=some (.frz o (.lst a))
def Zv8{P:Ud}{w:Ue}{K:Aa}{mg Q:Str->Option Ua}{CX:CXT}{k:Nat}{X a:Uc}{fd:FuncData}{x:Str}{sp:Sp}{c:Ub}{vs:LW}{A:List Int}
  (KX:K.In c.heap) (E:c.heap.Ns mainGlobals mg) (g:c.heap.Ns builtinsNs Q) (T:∀x:Str,x≠"__name__"->Q x=bootBuiltins x) (G:c.heap.NoLimit) (hg:c.gens=#[])
  (N:c.heap.get? a=some {cls:= .type "list",data:= .seq vs.toArray}) (hi:IntsAre vs A) (hl:A.length<=sizeLine) (hr:Room k callerA)
  (F:∀j:Uf,K.In j->j.Ns mainGlobals mg->FnOk P w K mg j CX k X fd [x] sp) (t:∀(s:Ub) (u:Ua),BindsTo s fd ([u],[]) [#v[x,u]])
  (R:∀H:Hp,Only H->SqL K H a (A.map V.int)->sp [.ref a] H (λv _=>v= .bl true) λ_ _ _=>False)
  (U:∀H e i,CX [] H c (λ_ _ _=>False) e i->False):
  codeAny (model P w) callerA (.call (.ref X) ([.ref a],[])) (λr i=>r= .ok (.ret (.bool true))/\OldK c.heap i.heap/\i.os=c.os/\AllBare i.gens) c:=by
 have rv:=Sn hi;have B:=hi.length;have p:∀H:Hp,Only H->SqL K H a (A.map V.int)->HOk P w H c.heap->(∀b,H b≠none->b=a)->(H a≠none->K.lookup a=none)->
   codeAny (model P w) callerA (.call (.ref X) ([.ref a],[])) (λr i=>r= .ok (.ret (.bool true))/\OldK c.heap i.heap/\i.os=c.os/\AllBare i.gens) c:=by
  intro H hO hS D hA hK;have f:∀{b:Uc} {o:Obj},c.heap.get? b=some o->H b=none->(hidT c.heap H).get? b=some o:=λe n=>Zz1 e n;have O:∀{b:Uc} {o:Obj} {J:Array DictEntry} {L:Nat},c.heap.get? b=some o->o.data= .dict J L->H b=none:=fun{b o J L} e d=>by
   cases q:H b with
   | none=>rfl
   | some u=>have Y:b=a:=hA b (by rw[q];simp);subst Y;rw[N] at e;cases e;have d':Data.seq vs.toArray _=Data.dict J L:=d;cases d'
  have l:∀{b:Uc} {m:Str->Option Ua},c.heap.Ns b m->(hidT c.heap H).Ns b m:=fun{b m} zz=>by let(o,J,L,e,d,r):=zz;show(o,J,L,f e (O e d),d,r)
  have I:K.In (hidT c.heap H):=λb o e=>f (KX b o e) (by
   cases q:H b with
   | none=>rfl
   | some u=>
    have Y:b=a:=hA b (by rw[q];simp);subst Y;rw[hK (by rw[q];simp)] at e;cases e)
  have hM:Mod K mg (hidT c.heap H):=(I,l E,(Q,l g,T),let (mc,h1,h2):=G;(mc,l h1,h2));have e0:Env0 P w K mg (hidT c.heap H) callerA [] c H:=(rfl,hM,λb o e=>Y55 e,Nat.le_of_eq (Zj9 _ _),trivial,λb g=>absurd (show b∈([]:List Uc) from g) 's',D,.of_eq hg);show Mf ((F _ I (l E)).run callerA [] c H ([.ref a],[]) [.ref a] [.ref a] _ _ hr e0 (t c (.ref a)) (.cons rfl .nil) (R H hO hS)) λr i h=>?_;cases r with
  | error e=>show(U H e i h).elim
  | ok fl=>
   cases fl with
   | next=>show Az h
   | brk=>show Az h
   | cont=>show Az h
   | ret u=>
    let(v,H',os,M,Z,C,r',q):=h;have q':v= .bl true:=q;subst q';obtain rfl:u=Value.bool true:=r';show(rfl,OldK.of_keep λb o e=>?_,os,M);cases q:H b with
    | none=>show Z.keep b o e q (by intro z;show absurd (show b∈([]:List Uc) from z) 's') 's'
    | some u=>
     rcases hO b with z|⟨ob,xs,z⟩
     .rw[q] at z;cases z
     .have z2:=Z.frzs b ob _ z;let(e1,_):=D b _ z;let(e2,_):=C b _ z2;rw[e] at e1;cases e1;show e2
 cases S:K.lookup a with
 | some o=>have e:=KX a o S;rw[N] at e;cases e;show p (λ_=>none) (λ_=> .inl rfl) (.inr (_,vs.toArray,_,S,rfl,rfl,rfl,by rw[Ak,B];show hl,↥rv)) (λb u z=>by have y:(none:Option HO)=some u:=z;cases y) (λb z=>absurd rfl z) λz=>absurd rfl z
 | none=>
  show p (λb=>if b=a then some (.frz {cls:= .type "list",data:= .seq vs.toArray} (.lst (A.map V.int))) else none) (λb=>?_) (.inl (.inr ({cls:= .type "list",data:= .seq vs.toArray},nc rfl))) (λb u z=>?_) (λb z=>?_) λ_=>S
  .by_cases g:b=a
   .show .inr (_,_,nc g)
   .show .inl (nb g)
  .by_cases g:b=a
   .have y:=(nc g).symm.trans z;cases y;subst g;show(N,by rw[Al];show hl,vs,_,rv,N)
   .have y:=(nb g).symm.trans z;cases y
  .by_cases g:b=a
   .show g
   .show absurd (nb g) z
abbrev CX0:CXT:=λ_ _ _ _ _ _=>False
abbrev E0:XK:=λ_ _ _=>False
structure Fun(K:Aa)(x qual:Str)(st:Stmt)(f:Uc)(fd:FuncData):Prop where
 ex:∃(oc:Ua) (od:Option Uc) (dV kV doc pm:Ua) (an:Option Uc) (cdv ct:Ua) (osl:Array (Option Ua)),
  fd=Hh x qual (X8 st) (Y9 st) (Zi st) dV kV doc pm an cdv ct/\K.lookup f=some (oc,od,.func fd,osl)/\Im K cdv qual=true
 kp:Hg K (.ref f)=true
section
variable{P:Ud}{w:Ue}{K:Aa}{mg:Str->Option Ua}{base:Uf}
def Fun.ok{x qual:Str}{st:Stmt}{f:Uc}{g:FuncData}{N ps:LS}{k:Nat}{sp:Sp}(F:Fun K x qual st f g)(S:FnScope N ps (Zi st))(c:∀vs H Q E,sp vs H Q E->vs.length=ps.length)
  (b:∀(a:Ua) (A:Around) (outer:List Env) (s:Ub) (H:Hp) (vs:LV) (Q:VK) (E:XK),Room k (A.deeper (envOfC qual (Zi st) s⁻¹ f a))->sp vs H Q E->
   ∃t,PSs (cxOf CX0 P w K mg base N qual (Zi st) f a A outer s H E).nox (Y9 st) t/\t {nx:=λ_ n=>Q .non n,rt:=Q} (start N vs) H):FnOk P w K mg base CX0 (k+1) f g ps sp:=by
 let(r,p,v,u,m,o,z,a,y,i,rfl,j,e):=F.ex;show Yk1 j e S c λA outer s H vs Q E l d=>?_;let(t,h,q):=b a A outer s H vs Q E l d;show(t,h.nox,q)
def Zd5{x qual:Str}{st:Stmt}{f:Uc}{d:Array (Option Ua)}{h g b e a i:Ua}(l:K.lookup f=some (m,od,.func (Hh x qual (X8 st) (Y9 st) (Zi st) h g b e j a i),d))
  (c:Im K a qual=true) (k:Hg K (.ref f)=true):Fun K x qual st f (Hh x qual (X8 st) (Y9 st) (Zi st) h g b e j a i):=((m,od,h,g,b,e,j,a,i,d,rfl,l,c),k)
end
section
variable{X:Cx}
def Zj2:S3 X (.builtin "len") (λxs H Q=>∃a kvs,xs=[V.ref a]/\H a=some (.dK kvs)/\Q (.int kvs.length) H):=by intro b s f H xs g Q I r h;let(a,kvs,rfl,d,q):=h;let(u,rfl,c):=Oa r;cases c;show Yv2 I (.inl d) λt i e=>(.int kvs.length,H,e,(t,rfl),q)
end
end L2
namespace L3
open PySem PySem.Spec PyProof.Rows L2
def Bits(n:Nat)(x:Int):Prop:=x.natAbs<2 ^ n
def Za1{m n:Nat}(h:m<2 ^ n)(a:0<n):m.log2<n:=by
 rcases Nat.eq_zero_or_pos m with h0|h0
 .rw[h0];show a
 .exact(Nat.log2_lt (nk h0)).mpr h
section
variable{X:Cx}
def Z54(_ j:Int):Prop:=j≠0/\j.natAbs.log2<9000
def Zy5:OpR X (binaryOp .FloorDiv) (rI Z54 λi j=> .int (i.fdiv j)):=opI λ_ _ _ _ _ _ _ a q=>floordiv_int a.1 q (.inl (PyProof.noPylong_of_log2 a.2))
def Ye4:OpR X (binaryOp .Mult) (rI IntMulOk λi j=> .int (i * j)):=opI λ_ _ _ _ _ _ _ a q=>mul_int q a
def rIsB(K:Aa):LV->Hp->VK->Prop:=λa H Q=>∃x n t b,a=[x,.ty n]/\TyOf K H x t/\Ka K t (.type n)=some b/\Q (.bl b) H
def Zx8:S3 X (.builtin "isinstance") (rIsB X.K):=by intro a s i H j k Q I r h;let(x,n,t,b,rfl,c,e,q):=h;let(u,v,rfl,g,f):=Zw1 r;obtain rfl:v=Ko n:=f;show Zh1 I g c e λd=>(.bl b,H,I.tok d,rfl,q)
end
mutual
def Rep(K:Aa)(H:Hp):PyData->V->Prop
 | .none,v=>v= .non
 | .bool b,v=>v= .bl b
 | .int i,v=>v= .int i
 | .str x,v=>v= .str x
 | .list d,v=>∃a c,v= .ref a/\SqL K H a c/\Wp K H d c
 | .tuple d,v=>∃a c,v= .ref a/\SqT K H a c/\Wp K H d c
 | .dict _,_=>False
def Wp(K:Aa)(H:Hp):List PyData->LV->Prop
 | [],a=>a=[]
 | d::c,a=>∃v b,a=v::b/\Rep K H d v/\Wp K H c b
end
section
variable{X:Cx}{pins:PLO}{σ:L2.St}{H:Hp}{s:Ub}
mutual
theorem Rep.reads(I:'v'):∀(d:PyData) (v:V) (u:Ua),Rep X.K H d v->RelV v u->∃as,Reads s.heap u d as
 | .none,v,u,h,r=>by ext h Rep;subst h;cases (show u=Lv from r);show([],.none)
 | .bool b,v,u,h,r=>by ext h Rep;subst h;cases (show u=Value.bool b from r);show([],.bool b)
 | .int i,v,u,h,r=>by ext h Rep;subst h;let(t,rfl):=(show ∃t,u=Value.int i t from r);show([],.int i t)
 | .str x,v,u,h,r=>by ext h Rep;subst h;let(t,rfl):=(show ∃t,u=Md x t from r);show([],.str x t)
 | .list q,v,u,h,r=>by ext h Rep;let(a,e,rfl,j,k):=h;cases (show u=Ay a from r);let(c,f,(o,n,p,m,_,l),_):=I.list j;let(as,g):=Wp.reads I q e c k f;show(_,.list p m l g)
 | .tuple q,v,u,h,r=>by ext h Rep;let(a,e,rfl,j,k):=h;cases (show u=Ay a from r);let(c,f,(o,p,m,n,l),_):=I.tuple j;let(as,g):=Wp.reads I q e c k f;show(_,.tuple p m l g)
 | .dict w,v,u,h,r=>by ext h Rep;show h.elim
theorem Wp.reads(I:'v'):∀(a:List PyData) (xs:LV) (us:LW),Wp X.K H a xs->Vals xs us->∃as,ReadsAll s.heap us a as
 | [],xs,us,h,r=>by ext h Wp;subst h;cases r;show([],.nil)
 | d::a,xs,us,h,r=>by
  ext h Wp;let(v,b,rfl,j,i):=h;cases r with
  | cons e c=>let(as,g):=Rep.reads I d v _ j e;let(k,f):=Wp.reads I a b _ i c;show(_,.cons g f)
end
end
section
variable{X:Cx}
def rEqD(K:Aa)(c:Bool):R2:=λx y H Q=>∃b a,Rep K H b x/\Rep K H a y/\b.canLay0=true/\a.canLay0=true/\min b.depth a.depth<=60/\Q (.bl (if c then !PyData.eqv b a else Ij b a)) H
def Yo2(n:X.A.units+64<cLine):OpR X (compareOp .Eq) (rEqD X.K false):=by intro a s m H x y v u Q I c b h;let(l,k,j,i,g,f,o,q):=h;let(r,e):=Rep.reads I l x v j c;let(p,d):=Rep.reads I k y u i b;show PySem.SeqAt.compareEq_reads e d g f 'o' (.bl _,H,I,rfl,q)
end
end L3
namespace L3
open PySem PySem.W PySem.Calls PyProof.Rows L2
def bigN:Nat:=1048576
def Pq:∀(a:List Int) (i:Int),i∈a->WData.weight (.int i)<=WData.weightAll (a.map WData.int)
 | [],_,h=>nomatch h
 | n::r,i,h=>by
  rw[Aj];have e:WData.weightAll (WData.int n::r.map WData.int)=WData.weight (.int n)+1+WData.weightAll (r.map WData.int):=by simp[WData.weightAll]
  rw[e];rcases Ab.mp h with q|q
  .subst q;lia
  .have:=Pq r i q;lia
def Ps{a:List Int}(h:WData.layableAll [WData.list (a.map WData.int)]=true):∀i∈a,Bits bigN i:=by
 intro i e;have b:WData.layable (WData.list (a.map WData.int))=true:=by simpa[WData.layableAll] using h
 ext b WData.layable;rw[Bz9] at b;have l:WData.weight (WData.list (a.map WData.int))<=2 ^ 20:=of_decide_eq_true b.2;have k:WData.weight (WData.list (a.map WData.int))=WData.weightAll (a.map WData.int):=by simp[WData.weight]
 have j:=Pq a i e;have c:WData.weight (.int i)=if i==0 then 0 else i.natAbs.log2+1:=by simp[WData.weight]
 unfold Bits bigN;by_cases d:i=0
 .subst d;show Nat.two_pow_pos _
 .have f:(i==0)=false:=by simpa using d
  rw[f] at c;have g:i.natAbs.log2<1048576:=by have:(2:Nat) ^ 20=1048576:='d';erw[Bool.false_eq_true,if_false] at c;lia
  show(Nat.log2_lt 'o').mp g
def Gk{l:OpenLaw}{n:Nat}{q:Ud}{loose:LS}{XP:(Str->Option Ua)->Uf->Prop}{YP:Ue->Uf->Prop}{d:DefRec}(E:l.most=some n)(J:d.params.defaults=[])
  (s:∀(w:Ue) (c b:Ub) (mg v:Str->Option Ua) (u:Uc) (o:Obj) (A cd p:Ua) (a:Uc) (vs:LW) (g:List Int),
   Ground q loose [] XP w c mg v b.heap->YP w b.heap->mg d.name=↑u->
   b.heap.get? a=some {cls:= .type "list",data:= .seq vs.toArray}->IntsAre vs g->g.length<=n->(∀i∈g,Bits bigN i)->b.gens=#[]->
   codeAny (model l.prog w) callerA (.call (.ref u) ([.ref a],[])) (λr t=>r= .ok (.ret (.bool true))/\OldK b.heap t.heap/\t.os=b.os/\AllBare t.gens) b):
  WalkO q loose XP YP l.row.toRowW d [] (λf vs=>PySem.call f vs):=by
 intro w c b mg v G Y u o A cd p S O P Q K R y I B z T h m C x H;let(a,vs,g,rfl,rfl,j,e,k):=Att.script_of E h x;show enter_call (Mf (s w c b mg v u o A cd p a vs g G Y y j e k (Ps m) I) λr t D=>?_);let(rfl,N,M,L):=D;show(.inl (.bool true,.bool true,[],rfl,λ_=>rfl,.bool true,Att.post_true l _,λ_=>(List.Pairwise.nil,λ_ F=>(nomatch F))),N,M,L)
def Yl0{l:PySem.W.OpenLaw}{n k:Nat}{q:Ud}{loose:LS}{XP:(Str->Option Ua)->Uf->Prop}{YP:Ue->Uf->Prop}{d:DefRec}{K:Params->Aa}{CX:Ue->CXT}{sp:Ue->Sp}{x:Str}
  (M:l.most=some n) (A:n<=sizeLine) (C:d.params.defaults=[]) (L:Room k callerA) (P:∀(w:Ue) (h:Uf),YP w h->(K w.params).In h)
  (F:∀(w:Ue) (mg:Str->Option Ua) (y:Uc) (h:Uf),(K w.params).In h->h.Ns mainGlobals mg->mg d.name=↑y->
   ∃E:FuncData,(∀(s:Ub) (u:Ua),BindsTo s E ([u],[]) [#v[x,u]])/\∀base:Uf,(K w.params).In base->base.Ns mainGlobals mg->FnOk l.prog w (K w.params) mg base (CX w) k y E [x] (sp w))
  (z:∀(w:Ue) (H:Hp) (a:Uc) (r:List Int),r.length<=n->(∀i∈r,Bits bigN i)->Only H->SqL (K w.params) H a (r.map V.int)->sp w [.ref a] H (λv _=>v= .bl true) λ_ _ _=>False)
  (D:∀(w:Ue) (H:Hp) (s:Ub) (e:Ua) (s':Ub),CX w [] H s (λ_ _ _=>False) e s'->False):
  PySem.W.WalkO q loose XP YP l.row.toRowW d [] (λf vs=>PySem.call f vs):=by
 show Gk M C λw I p mg Z y o X cd U a vs r G Y B t j c m N=>?_;have J:=P w _ Y;let(E,O,S):=F w mg y _ J G.T.g B;show Zv8 J G.T.g G.T.b G.T.builtins G.T.nolimit N t j (nh c A) L S O (λH R Q=>z w H a r c m R Q) λH e s'=>D w H p e s'
end L3
namespace L3
open PySem
section
variable{P:Ud}{w:Ue}{A:Around}{R:Result->Ub->Prop}{s:Ub}{elt tg iter c:Expr}{scope:Scope}{pos:Pos}{it acc:Ua}{env:Env}
abbrev noE:VSP:=λ_ _=>False
def Z68(I:Nat->Ub->Prop)
  (a:∀n s,I n s->wpAny (model P w) A (pyNext it) (λr b=>match r with
   | none=>R (.ok .next) b
   | some v=>wpAny (model P w) A (letOwnedTupleGo tg it v) (λ_ i=>wpAny (model P w) A (assign tg env v) (λ_ g=>wpAny (model P w) A (eval elt env) (λx e=>
     wpAny (model P w) A (call (.builtin "list.append") [acc,x]) (λ_ d=>∃m,m<n/\I m d) noE e) noE g) noE i) noE b) noE s)
  (n:Nat) (h:I n s):codeAny (model P w) A (.compLoop (.ListComp elt [(tg,iter,[],0)] scope pos) 0 it acc env) R s:=by
 show codeAny_loop rfl I (λm z k=>?_) n h;change wpAny _ A ((compTurn (.ListComp elt [(tg,iter,[],0)] scope pos) 0 it acc env).onRaise λx=>do noteFrame x env;theTreesLotGoes x) _ _ z;show wpAny_noted ?_;rw[compTurn_list1];show Ag (wpAny_standAt (Ag (Hi (a m z k) (λr b j=>?_) λ_ _ f=>f.elim)));cases r with
 | none=>show Ar j
 | some v=>show Ag (Hi j (λ_ i q=>?_) λ_ _ f=>f.elim);show Ag (Hi q (λ_ g p=>?_) λ_ _ f=>f.elim);show Ag (Ag (Hi p (λx e o=>?_) λ_ _ f=>f.elim));show Ag (Hi o (λ_ d l=>Ar (Ar (rfl,l))) λ_ _ f=>f.elim)
def Z86(I:Nat->Ub->Prop)
  (a:∀n s,I n s->wpAny (model P w) A (pyNext it) (λr d=>match r with
   | none=>R (.ok .next) d
   | some v=>wpAny (model P w) A (letOwnedTupleGo tg it v) (λ_ k=>wpAny (model P w) A (assign tg env v) (λ_ j=>wpAny (model P w) A (isTrue c env (eval c env)) (λe b=>
     if e=true then wpAny (model P w) A (eval elt env) (λx i=>wpAny (model P w) A (call (.builtin "list.append") [acc,x]) (λ_ g=>∃m,m<n/\I m g) noE i) noE b
     else ∃m,m<n/\I m b) noE j) noE k) noE d) noE s)
  (n:Nat) (h:I n s):codeAny (model P w) A (.compLoop (.ListComp elt [(tg,iter,[c],0)] scope pos) 0 it acc env) R s:=by
 show codeAny_loop rfl I (λm z p=>?_) n h;change wpAny _ A ((compTurn (.ListComp elt [(tg,iter,[c],0)] scope pos) 0 it acc env).onRaise λx=>do noteFrame x env;theTreesLotGoes x) _ _ z;show wpAny_noted ?_;rw[compTurn_list];show Ag (wpAny_standAt (Ag (Hi (a m z p) (λr d o=>?_) λ_ _ f=>f.elim)));cases r with
 | none=>show Ar o
 | some v=>
  show Ag (Hi o (λ_ k y=>?_) λ_ _ f=>f.elim);show Ag (Hi y (λ_ j u=>?_) λ_ _ f=>f.elim);show Ag (wpAny_tests_one (Hi u (λe b l=>?_) λ_ _ f=>f.elim));cases e with
  | false=>show Ar (rfl,l)
  | true=>show Ag (Ag (Hi l (λx i t=>?_) λ_ _ f=>f.elim));show Ag (Hi t (λ_ g q=>Ar (Ar (rfl,q))) λ_ _ f=>f.elim)
end
def Rg:∀(b:List (Str×NameKind)) (a:List (Str×Uc)),(∀n,#v[n,Dk]∈b->∃c,env.cells.lookup n=some c)->
  (∀x c,a.lookup x=some c->env.cells.lookup x=some c)->
  ∃cl,(forIn b a fun(x:Str×NameKind) (w:List (Str×Uc))=>match x with
   |#v[f,j]=>if (j==Dk)=true then do let c <-cellOf env f;pure (ForInStep.yield (#v[f,c]::w)) else pure (ForInStep.yield w):Sem (List (Str×Uc)))=pure cl/\
   (∀x c,cl.lookup x=some c->env.cells.lookup x=some c)/\(∀n,#v[n,Dk]∈b->∃c,cl.lookup n=some c)/\∀x c,a.lookup x=some c->∃z,cl.lookup x=some z
 | [],a,_,o=>(a,rfl,o,(λ_ h=>nomatch h),λx c e=>(c,e))
 |#v[n,k]::r,a,p,o=>by
  by_cases s:k= .free
  .subst s;let(c,v):=p n Ad;let(cl,e,u,t,l):=Rg r (#v[n,c]::a) (λm i=>p m (Ae _ i)) (λx d g=>by
    rw[Hl] at g;cases q:x==n with
    | true=>rw[q] at g;cases g;rw[Kf q];show v
    | false=>rw[q] at g;show o x d g)
   show(cl,?_,u,λm i=>?_,λx d g=>?_)
   .rw[List.forIn_cons];show(bind (bind (cellOf env n) _) _:Sem _)=_;ext cellOf;rw[v];show e
   .rcases Ab.mp i with q|q
    .cases q;show l n c (by simp[Hl])
    .show t m q
   .cases q:x==n with
    | true=>show l x c (by rw[Hl,q])
    | false=>show l x d (by rw[Hl,q];show g)
  .have y:(k==Dk)=false:=by simpa using s
   let(cl,e,u,t,l):=Rg r a (λm i=>p m (Ae _ i)) o;show(cl,?_,u,λm i=>?_,l)
   .rw[List.forIn_cons];show(bind (if (k==Dk)=true then _ else _) _:Sem _)=_;rw[y];show e
   .rcases Ab.mp i with q|q
    .cases q;show absurd rfl s
    .show t m q
def Om(hn:∀n,#v[n,Dk]∈scope.names->∃c,env.cells.lookup n=some c):
  ∃cl,closureFor scope env=pure cl/\(∀x c,cl.lookup x=some c->env.cells.lookup x=some c)/\∀n,#v[n,Dk]∈scope.names->∃c,cl.lookup n=some c:=by
 let(cl,e,h1,h2,_):=Rg scope.names [] hn (λx c h=>by cases h);show(cl,?_,h1,h2);show(congrArg (λt:Sem (List (Str×Uc))=>bind t λz=>pure z) e).trans rfl
end L3
namespace L3
open PySem PySem.Spec PyProof.Rows L2
def cxC(X:Cx)(a:LS)(scope:Scope)(cl:List (Str×Uc))(C:Uc)(fp:List Uc)(pins:PLO)(s:Ub)(H:Hp):Cx where
 prog:=X.prog
 w:=X.w
 K:=X.K
 mg:=X.mg
 base:=X.base
 A:=X.A
 N:=a
 s₀:=s
 H₀:=H
 env:=compEnvC scope cl C X.env
 outer:=X.stack
 stack:=X.stack
 ex:=fp
 fn:=λx=>scope.names.any λy=>y.1==x&&y.2== .cell
 calm:=X.calm
 pn:=X.pn++pins
 xe:=noE
def V4(scope a:Scope):Scope:=
 {scope with names:=scope.names.map fun#v[n,k]=>if (k== .free&&a.kind== .function&&a.names.lookup n==some .cell) then#v[n,.cell] else#v[n,k]}
def Qg(b:List (Option Nat))(a:L2.St):L2.St:=b.map λo=>o.bind λj=>(a[j]?).join
structure CompScope(dsc:Scope)(dN N':LS)(js:List (Option Nat))(scope:Scope):Prop where
 kind:scope.kind= .function
 nd:(scope.names.map (·.1)).Nodup
 loc:∀y∈scope.names,y.2= .local->scope.names.lookup y.1=some .local
 len:js.length=N'.length
 cap:∀(i:Nat) (x:Str) (j:Nat),N'[i]?=some x->js[i]?=some (some j)->dN[j]?=some x/\#v[x,Dk]∈scope.names
 free:∀n,#v[n,Dk]∈scope.names->dsc.names.lookup n=some .cell\/dsc.names.lookup n=some .free
 seen:∀n,#v[n,Dk]∈scope.names->(V4 scope dsc).names.lookup n=some .cell\/(V4 scope dsc).names.lookup n=some .free
def O5(a:Scope)(d c:LS)(b:List (Option Nat))(scope:Scope):Bool:=
 scope.kind== .function&&decide ((scope.names.map (·.1)).Nodup)&&scope.names.all (λy=>y.2 != .local || scope.names.lookup y.1==some .local)&&b.length==c.length&&
 (c.zip b).all (λp=>match p.2 with | some j=>d[j]?==some p.1&&scope.names.contains #v[p.1,Dk] | none=>true)&&
 scope.names.all (λy=>y.2 != .free || ((a.names.lookup y.1==some .cell || a.names.lookup y.1==some .free)&&((V4 scope a).names.lookup y.1==some .cell || (V4 scope a).names.lookup y.1==some .free)))
def CompScope.of{a:Scope}{f d:LS}{b:List (Option Nat)}(h:O5 a f d b scope=true):CompScope a f d b scope:=by
 ext h O5;erw[Bz9,Hy,beq_iff_eq,bne_iff_ne,Bool.or_eq_true,decide_eq_true_eq] at h;let(((((s,r),p),o),m),e):=h;show(s,r,λy g l=>(p y g).resolve_left λz=>z l,o,λi x j u t=>?_,λn c=>?_,λn c=>?_)
 .have k:#v[x,some j]∈d.zip b:=Df (i:=i) (by rw[List.getElem?_zip_eq_some];show(u,t));have q:=m _ k;erw[Bz9,beq_iff_eq,Hn] at q;show q
 .exact((e _ c).resolve_left λz=>z rfl).1
 .exact((e _ c).resolve_left λz=>z rfl).2
def Tn{env:Env}{x:Str}{k:NameKind}:∀{a:List (Str×NameKind)},
  (a.map fun#v[n,k]=>if (k==Dk&&env.scope.kind== .function&&env.kindOf n==some .cell) then#v[n,Fd] else#v[n,k]).lookup x=some k->(k= .cell\/k= .free)->#v[x,Dk]∈a\/#v[x,Fd]∈a
 | [],h,_=>by simp at h
 |#v[n,q]::r,h,f=>by
  rw[Aj] at h;by_cases d:x=n
  .subst d;have i:q= .free\/q= .cell:=by
    by_cases c:(q==Dk&&env.scope.kind== .function&&env.kindOf x==some .cell)=true
    .rw[Bz9,Bz9] at c;show .inl (Kf c.1.1)
    .simp only[if_neg c] at h;rw[Hl,beq_self_eq_true] at h;have e:q=k:=Dw h;rcases f with z|z
     .show .inr (e.trans z)
     .show .inl (e.trans z)
   rcases i with rfl|rfl
   .show .inl Ad
   .show .inr Ad
  .have g:(x==n)=false:=by simpa using d
   have b:(r.map fun#v[n,k]=>if (k==Dk&&env.scope.kind== .function&&env.kindOf n==some .cell) then#v[n,Fd] else#v[n,k]).lookup x=some k:=by
    by_cases c:(q==Dk&&env.scope.kind== .function&&env.kindOf n==some .cell)=true
    .simp only[if_pos c] at h;rw[Hl,g] at h;show h
    .simp only[if_neg c] at h;rw[Hl,g] at h;show h
   show(Tn (env:=env) b f).imp (Ae _) (Ae _)
structure BlockCells(X:Cx)(scope:Scope)(cl:List (Str×Uc))(sz:Nat)(h1:Uf):Prop where
 each:∀x c,cl.lookup x=some c->X.env.cells.lookup x=some c\/(sz<c/\h1.IsCell c none)
 free:∀n,#v[n,Dk]∈scope.names->∃c,cl.lookup n=some c/\X.env.cells.lookup n=some c
 own:∀n,#v[n,Fd]∈scope.names->∃c,cl.lookup n=some c/\sz<c
 inj:∀x y c,cl.lookup x=some c->cl.lookup y=some c->sz<c->x=y
def Su{x:Str}:∀(a:List (Str×NameKind)) (n:Nat) (b:List (Str×Uc)),#v[x,Fd]∉a->(cellsFrom n a b).lookup x=b.lookup x
 | [],_,_,_=>rfl
 |#v[y,k]::r,n,b,h=>by
  have d:#v[x,Fd]∉r:=λz=>h (Ae _ z);ext cellsFrom;split
  .rename_i f;have c:(x==y)=false:=by rw[beq_eq_false_iff_ne];intro e;apply h;rw[e,<-Kf f];show Ad
   rw[Su r _ _ d,Hl,c]
  .show Su r n b d
def Pv{x:Str}:∀(a:List (Str×NameKind)) (n:Nat) (b:List (Str×Uc)),#v[x,Fd]∈a->∃c,(cellsFrom n a b).lookup x=some c/\n<=c
 | [],_,_,h=>by cases h
 |#v[y,k]::r,n,b,h=>by
  ext cellsFrom;by_cases d:#v[x,Fd]∈r
  .split
   .let(c,e,l):=Pv r (n+1) (#v[y,n]::b) d;show(c,e,'o')
   .show Pv r n b d
  .rcases Ab.mp h with e|e
   .cases e;rw[nc (by rfl),Su r _ _ d,Hl,beq_self_eq_true];show(n,rfl,na _)
   .show absurd e d
def S0:∀(b:List (Str×NameKind)) (n:Nat) (a cl:List (Str×Uc)),∃own,cellsFrom n b (a++cl)=own++cl/\cellsFrom n b a=own
 | [],n,a,cl=>(a,rfl,rfl)
 |#v[y,k]::r,n,a,cl=>by
  ext cellsFrom;split
  .show S0 r (n+1) (#v[y,n]::a) cl
  .show S0 r n a cl
def Vx{x:Str}{c:Uc}:∀{a b:List (Str×Uc)},(a++b).lookup x=some c->a.lookup x=some c\/b.lookup x=some c
 | [],b,h=> .inr h
 |#v[y,d]::a,b,h=>by
  rw[Dh,Hl] at h;rw[Hl];cases e:x==y with
  | true=>rw[e] at h;show .inl h
  | false=>rw[e] at h;show Vx h
def Z96{H:Hp}{s:Ub}{cl:List (Str×Uc)}(D:(scope.names.map (·.1)).Nodup)(I:Inv X pins B H s)(o:Obj)
  (c1:∀x c,cl.lookup x=some c->X.env.cells.lookup x=some c) (c2:∀n,#v[n,Dk]∈scope.names->∃c,cl.lookup n=some c):
  BlockCells X scope (cellsFrom (s⁻¹+1) scope.names cl) s⁻¹ (pushCells (s.heap.push o) scope.names):=by
 let(C,g,f):=S0 scope.names (s⁻¹+1) [] cl;rw[Ho] at g;have m:=cellsFrom_ok scope.names (s.heap.push o) (s⁻¹+1) [] (λ_ _ F=>(nomatch F),List.Pairwise.nil) (by rw[Lp];show na _);rw[Lp,f] at m;have i:∀x c,cl.lookup x=some c->c<s⁻¹:=by intro x c e;let(v,q):=I.cell x c (c1 x c e);show q.lt
 have k:∀{n:Str},#v[n,Dk]∈scope.names->#v[n,Fd]∉scope.names:=by
  intro n J G;have p:∀(l:List (Str×NameKind)),(l.map (·.1)).Nodup->#v[n,Dk]∈l->#v[n,Fd]∈l->False:=by
   intro l;induction l with
   | nil=>intro _ h;cases h
   | cons y r E=>
    intro d a b;rw[Aj,Ao] at d;rcases Ab.mp a with g|A
    .rcases Ab.mp b with f|t
     .rw[<-g] at f;cases f
     .show d.1 (List.mem_map.mpr (_,t,by rw[<-g]))
    .rcases Ab.mp b with f|t
     .show d.1 (List.mem_map.mpr (_,A,by rw[<-f]))
     .show E d.2 A t
  show p _ D J G
 show(λx c e=>?_,λn d=>?_,λn d=>?_,λx y c w u j=>?_)
 .rw[g] at e;rcases Vx e with z|z
  .let(a,b):=m.empty x c (mem_of_lookup z);show .inr (b,a)
  .show .inl (c1 x c z)
 .let(c,j):=c2 n d;show(c,?_,c1 n c j);rw[Su _ _ _ (k d)];show j
 .let(c,a,b):=Pv scope.names (s⁻¹+1) cl d;show(c,a,b)
 .rw[g] at w u;rcases Vx w with z|z
  .rcases Vx u with z2|z2
   .show name_of_addr m.apart (mem_of_lookup z) (mem_of_lookup z2)
   .show absurd (i y c z2) (Nat.lt_asymm j)
  .show absurd (i x c z) (Nat.lt_asymm j)
def Z74{M:Model}{A:Around}{E:VSP}{s:Ub}{scope:Scope}{a:Uc}{cl:List (Str×Uc)}{qual:Str}{o:Env}{Q:Env->Ub->Prop}
  (f:Q {scope:=scope,locals:=s⁻¹,globals:=a,cells:=cellsFrom (s⁻¹+1) scope.names cl,qual:=qual,func:=none,code:=o.code,frame:=o.frame,builtins:=o.builtins} {s with heap:=pushCells (s.heap.push {cls:= .type "dict",data:= .dict #[]}) scope.names}):
  wpAny M A (newFunctionEnv scope a cl [] qual none .none (some o)) Q E s:=by
 erw[newFunctionEnv,Option.isSome_some,if_true];show Ag (wpAny_alloc ?_);show Ag (wpAny_layCells _ (λe b d=>by cases c:b==Fd<;>simp[c]) _ _ _ _ ?_);rw[show({s with heap:=s.heap.push {cls:= .type "dict",data:= .dict #[]}}:Ub).heap.objs.size=s⁻¹+1 from Lp ..];rw[List.forIn_nil];show Ag (Ar (Ar f))
section
variable{X:Cx}{elt tg iter c:Expr}{scope:Scope}{pos:Pos}{N':LS}{js:List (Option Nat)}{wi:TI}{g:TG}{te:TE}{tc:TT}
def Z97{H:Hp}{s:Ub}{cl:List (Str×Uc)}{w:Uf}(S:CompScope X.env.scope X.N N' js scope)(I:Inv X pins A H s)
  (f:BlockCells X scope cl s⁻¹ w) (P:∀b∈fp,FpOk X pins H b) (D:∀b∈fp,b<s⁻¹)
  (hn:w.Ns s⁻¹ m) (E:∀b o,s.heap.get? b=some o->w.get? b=some o):
  Inv (cxC X N' scope cl s⁻¹ fp pins s H) [] (Qg js A) H {s with heap:=w,toks:=tk}:=by
 have Y:(cxC X N' scope cl s⁻¹ fp pins s H).Ok:=by
  show(I.ok.mod,S.kind,I.ok.glob,I.ok.blt,na _,λx y c w T=>?_,λx C=>?_,λx c C e=>?_,I.ok.hd,I.ok.frames,.inl rfl,λb B=>(ni (D b B),λx c e=>?_),
   I.bs,nh I.ok.bsz I.sz,λb o e B=>?_,λb B C=>?_,I.stack,I.stkFree)
  .rcases f.each x c w with z|z
   .rcases f.each y c T with z2|z2
    .show I.ok.inj x y c z z2
    .show f.inj x y c w T z2.1
   .show f.inj x y c w T z.1
  .have h:(relabel scope X.env).names.lookup x=some .cell\/(relabel scope X.env).names.lookup x=some .free:=C;have t:#v[x,Dk]∈scope.names\/#v[x,Fd]∈scope.names:=by
    rcases h with z|z
    .show Tn z (.inl rfl)
    .show Tn z (.inr rfl)
   rcases t with z|z
   .let(c,e,_):=f.free x z;show(c,e)
   .let(c,e,_):=f.own x z;show(c,e)
  .have h:(scope.names.any λy=>y.1==x&&y.2==Fd)=true:=C;rw[Hz] at h;let((y,k),t,L):=h;rw[Bz9] at L;have V:y=x:=Kf L.1;have U:k= .cell:=Kf L.2;subst V U;let(W,e',l):=f.own _ t;have:W=c:=Dw (e'.symm.trans e);subst this;show nw l
  .rcases f.each x c e with z|z
   .exact(P b B).2.2.2.2.1 x c z
   .show λq=>absurd z.1 (Nat.lt_asymm (by rw[q];show D b B))
  .let(_,_,_,f3,_):=P b B;rcases f3 with z|z
   .show I.ok.noex b o e z
   .show absurd (ng (Aw e) (nh I.ok.bsz z)) (nn _)
  .let(_,f1,f2,_):=P b B;rcases Ab.mp (I.stkSub b C) with z|z
   .show f1 z
   .show f2 z
 show(Y,rfl,I.bare,Un.kept E,(m,hn,λi x v V U e3=>?_),λx c e=>?_,I.hok.fresh (na _),λx c e=>(f.each x c e).elim (λz=>I.freeC x c z) (λz=>I.hok.fresh (nw z.1)),λp hp=>?_,I.hok.kept E,?_)
 .have a:(Qg js A)[i]?=some (some v):=U;ext a Qg;rw[Dj] at a;cases q:js[i]? with
  | none=>rw[q] at a;cases a
  | some o=>
   rw[q] at a;cases o with
   | none=>cases a
   | some j=>
    have J:(A[j]?).join=some v:=Dw a;let(hN,t):=S.cap i x j V q;have K:A[j]?=some (some v):=by
     cases z:A[j]? with
     | none=>rw[z] at J;cases J
     | some o=>rw[z] at J;show congrArg some J
    let(m0,z0,hl):=I.loc;let(c,hc,R):=f.free x t;have hv:Vis X.env.scope x:=(S.free x t).elim (λz=> .inr (.inl z)) λz=> .inr (.inr z);let(u,r,l):=hl j x v hN K hv;show(u,r,.inr (?_,c,hc,?_))
    .show S.seen x t
    .rcases l with⟨kl,_⟩|⟨_,W,F,G⟩
     .rcases S.free x t with y|y<;>(have z:=y.symm.trans (show X.env.scope.names.lookup x=some .local from kl);cases z)
     .rw[R] at F;cases F;let(o,O,Q):=G;show(o,E _ _ O,Q)
 .rcases f.each x c e with z|z
  .let(v,o,O,Q):=I.cell x c z;show(v,o,E _ _ O,Q)
  .exact(none,z.2)
 .have M:p∈X.pn++pins:=(Am.mp hp).elim (λz=>z) λz=>absurd z 's';let(e,n,ne,Z,d):=I.pin p M;show(E _ _ e,n,ni (Aw e),λz=>?_,d);rcases Ab.mp (I.stkSub p.1 z) with y|y
  .show ne y
  .show Z y
 .show(Qg js A).length=N'.length;ext Qg;rw[Al];show S.len
end
section
variable{X:Cx}{elt tg iter c:Expr}{cs:List Expr}{scope:Scope}{pos:Pos}{N':LS}{js:List (Option Nat)}{wi:TI}{g:TG}{te:TE}{tc:TT}
def Yi9(js:List (Option Nat))(wi:TI)(g:TG)(te:TE):TE:=λf H Q=>wi f H λJ k=>∀D,k D=none->∃W:Nat->Nat->L2.St->Hp->Prop,(∃m,W 0 m (Qg js f) (upd k D (.lst [])))/\
 ∀i m b e,W i m b e->(J.stop i e/\Q (.ref D) e)\/(J.go i e/\∀x l,J.yld i e x l->g x b l λd n=>te d n λy j=>∃a,j D=some (.lst a)/\a.length<sizeLine/\
  ∃h,h<m/\W (i+1) h d (upd j D (.lst (a++[y]))))
def Y31(js:List (Option Nat))(wi:TI)(g:TG)(tc:TT)(te:TE):TE:=λj H Q=>wi j H λJ n=>∀D,n D=none->∃W:Nat->Nat->L2.St->Hp->Prop,(∃m,W 0 m (Qg js j) (upd n D (.lst [])))/\
 ∀i m e h,W i m e h->(J.stop i h/\Q (.ref D) h)\/(J.go i h/\∀x o,J.yld i h x o->g x e o λa p=>tc a p λb l=>if b=true then te a l λy k=>∃d,k D=some (.lst d)/\d.length<sizeLine/\
  ∃f,f<m/\W (i+1) f a (upd k D (.lst (d++[y]))) else ∃f,f<m/\W (i+1) f a l)
def Y85(te:TE)(W:Nat->Nat->L2.St->Hp->Prop)(D:Uc)(m i:Nat)(σ:L2.St):Bool->Hp->Prop:=λb H=>if b=true then te σ H λy H4=>∃acc,H4 D=some (.lst acc)/\acc.length<sizeLine/\∃m',m'<m/\W (i+1) m' σ (upd H4 D (.lst (acc++[y]))) else ∃m',m'<m/\W (i+1) m' σ H
def Cks(X:Cx)(N':LS)(scope:Scope)(cs:List Expr)(tc:TT):Prop:=(cs=[]/\tc=λ_ H Q=>Q true H)\/∃c,cs=[c]/\∀cl C fp pins s H,PT (cxC X N' scope cl C fp pins s H) c tc
def Z06{M:Model}{A:Around}{it:Ua}{env:Env}{N:Ub->Prop}{F F':Ub->Prop}{z:Ub}(h:wpAny M A (pyNext it) (λr d=>match r with
   | none=>N d
   | some v=>wpAny M A (letOwnedTupleGo tg it v) (λ_ k=>wpAny M A (assign tg env v) (λ_ j=>F j) noE k) noE d) noE z) (f:∀j,F j->F' j):wpAny M A (pyNext it) (λr d=>match r with
   | none=>N d
   | some v=>wpAny M A (letOwnedTupleGo tg it v) (λ_ k=>wpAny M A (assign tg env v) (λ_ j=>F' j) noE k) noE d) noE z:=
 thn h λr d q=>by
  cases r with
  | none=>show q
  | some v=>show thn q λ_ k q=>thn q λ_ j q=>f j q
def Na{pins:PLO}{σ:L2.St}{H2:Hp}{s2:Ub}{cl:List (Str×Uc)}{it:Uc}{fp:List Uc}{tn:Nat->Uf->Prop}{J:It}{QD:Uc->Hp->Prop}{R:Ua->Uc->Result->Ub->Prop}{E:VSP}
  (hc:X.calm=true) (S:CompScope X.env.scope X.N N' js scope) (c1:∀x c,cl.lookup x=some c->X.env.cells.lookup x=some c) (c2:∀n,#v[n,Dk]∈scope.names->∃c,cl.lookup n=some c)
  (hg:∀cl C fp pins s H,PG (cxC X N' scope cl C fp pins s H) tg g) (hq:Cks X N' scope cs tc) (he:∀cl C fp pins s H,PE (cxC X N' scope cl C fp pins s H) elt te)
  (I2:Inv X pins σ H2 s2) (T:Turn X.prog X.w X.K tg J fp it tn) (st2:tn 0 s2.heap) (f2:∀b∈fp,FpOk X pins H2 b)
  (q:∀D,H2 D=none->∃W:Nat->Nat->L2.St->Hp->Prop,(∃m,W 0 m (Qg js σ) (upd H2 D (.lst [])))/\
   ∀i m σc Hc,W i m σc Hc->(J.stop i Hc/\QD D Hc)\/(J.go i Hc/\∀x H',J.yld i Hc x H'->g x σc H' λσ2 H2=>tc σ2 H2 (Y85 te W D m i σ2)))
  (back:∀(D C:Uc) (Hc:Hp) (s4:Ub),(∃m,s4.heap.Ns C m)->Inv X pins σ Hc s4->Hc C=none->C≠X.env.locals->X.s₀⁻¹<=C->(∀x c,X.env.cells.lookup x=some c->c≠C)->(∀p∈X.pn++pins,p.1≠C)->QD D Hc->R (.ref D) C (.ok .next) s4):
  ⇑X (newList []) (λacc s3=>⇑X (newFunctionEnv scope X.env.globals cl [] X.env.qual none .none (some X.env)) (λcenv s4=>
   codeAny (model X.prog X.w) X.A (.compStart (.ListComp elt [(tg,iter,cs,0)] scope pos) 0 (.ref it) acc {cenv with scope:=relabel scope X.env}) (R acc cenv.locals) s4) E s3) E s2:=by
 show Lj (Z74 ?_);dsimp only;have I3:Inv X pins σ (upd H2 s2⁻¹ (.lst [])) {s2 with heap:=s2.heap.push {cls:= .type "list",data:= .seq ([]:LW).toArray}}:=I2.lnew (its:=[]) (t':=s2.toks) .nil (nj _);let(W,(m0,w0),turn):=q s2⁻¹ I2.fresh;have hob:=T.obj 0 _ st2;have f3:∀b∈fp,FpOk X pins (upd H2 s2⁻¹ (.lst [])) b:=λb hb=>by let(o,e,_):=hob b hb;show(by rw[Z7 (ni (Aw e))];show(f2 b hb).1,(f2 b hb).2)
 generalize hS3:(s2.heap.push {cls:= .type "list",data:= .seq ([]:LW).toArray}:Uf)=h3 at *;have k23:∀b o,s2.heap.get? b=some o->h3.get? b=some o:=λb o e=>by rw[<-hS3];show Ap _ e
 have hlt:∀b∈fp,b<h3.objs.size:=λb hb=>by let(o,e,_):=hob b hb;show Aw (k23 b o e)
 have bc:=Z96 S.nd I3 {cls:= .type "dict",data:= .dict #[]} c1 c2;have hns:(pushCells (h3.push {cls:= .type "dict",data:= .dict #[]}) scope.names).Ns h3.objs.size (λ_=>none):=(Heap.Ns.new h3 (.type "dict")).keeps (pushCells_keeps _ _);have k31:∀b o,h3.get? b=some o->(pushCells (h3.push {cls:= .type "dict",data:= .dict #[]}) scope.names).get? b=some o:=λb o e=>pushCells_keeps _ _ b o (Ap _ e);dsimp only at bc;generalize cellsFrom (h3.objs.size+1) scope.names cl=cl' at bc |-;generalize pushCells (h3.push {cls:= .type "dict",data:= .dict #[]}) scope.names=h1 at bc hns k31 |-;have I4:=Z97 (tk:=s2.toks) S I3 bc f3 hlt hns k31;have st4:tn 0 h1:=T.keep 0 _ h1 st2 λb hb o e=>k31 b o (k23 b o e);have nofs:∀b∈fp,b∉'c'.fs:=I4.ok.exfs;have stat:∀{H':Hp},(∀b∈fp,H' b=none)->∀b∈fp,FpOk 'c' [] H' b:=fun{H'} hn b hb=>
  (hn b hb,ni (hlt b hb),nofs b hb,.inl hb,λx c e=>(bc.each x c e).elim (λz=>(f3 b hb).2.2.2.2.1 x c z) (λz q=>absurd z.1 (Nat.lt_asymm (by rw[q];show hlt b hb))),λp hp=>(f3 b hb).2.2.2.2.2 p (by simpa[cxC] using hp))
 have loop:codeAny (model X.prog X.w) X.A (.compLoop (.ListComp elt [(tg,iter,cs,0)] scope pos) 0 (.ref it) (.ref s2⁻¹) (compEnvC scope cl' h3.objs.size X.env))
   (R (.ref s2⁻¹) h3.objs.size) {s2 with heap:=h1,toks:=s2.toks}:=by
  have i0:∃i σc Hc,Inv 'c' [] σc Hc {s2 with heap:=h1,toks:=s2.toks}/\tn i h1/\(∀b∈fp,Hc b=none)/\W i m0 σc Hc:=(0,_,_,I4,st4,λb hb=>(f3 b hb).1,w0);have nxt:∀n z,(∃i σc Hc,Inv 'c' [] σc Hc z/\tn i z.heap/\(∀b∈fp,Hc b=none)/\W i n σc Hc)->⇑X (pyNext (.ref it)) (λr d=>match r with
    | none=>R (.ref s2⁻¹) h3.objs.size (.ok .next) d
    | some v=>⇑X (letOwnedTupleGo tg (.ref it) v) (λ_ k=>⇑X (assign tg (compEnvC scope cl' h3.objs.size X.env) v) (λ_ j=>∃i k σ6 H6,tn (i+1) k/\Inv 'c' ([]++O0 fp k) σ6 H6 j/\tc σ6 H6 (Y85 te W s2⁻¹ n i σ6)) noE k) noE d) noE z:=by
   rintro n z ⟨i,σc,Hc,Iz,stz,frz,wz⟩;rcases turn i n σc Hc wz with⟨stop,qd⟩|⟨go,step⟩
   .refine thn (T.done 'c' rfl rfl rfl hc i [] z σc Hc noE Iz (stat frz) stz stop) λr s4 zz=>?_;let(hr,I5):=zz;subst hr;have J5:Inv X pins σ Hc s4:=I3.call' (s':=s4) I5.os I5.base I5.hok I5.bare λb hb=>((f3 b hb).2.2.2.1,(f3 b hb).2.1,(f3 b hb).2.2.2.2.1,(f3 b hb).2.2.2.2.2);let(m,hm,_):=I5.loc;show back _ _ Hc s4 (m,hm) J5 I5.free (nk I3.lt) (nh I3.ok.above (nw I3.lt)) (λx c e z=>?_) (λp hp z=>?_) qd
    .let(v,q):=I3.cell x c e;show absurd q.lt (by rw[z];show nn _)
    .show absurd (Aw (I3.pin p hp).1) (by rw[z];show nn _)
   .refine thn (T.item 'c' rfl rfl rfl hc i [] z σc Hc noE Iz (stat frz) stz go) λr s4 zz=>?_;let(u,hr,h4):=zz;subst hr;show thn h4 λ_ s5 zz=>?_;let(x,H5,I5,r5,y5,st5,fr5):=zz;show thn (hg _ _ _ _ _ _ _ s5 σc H5 x u _ (I5.pinned (stat fr5) (T.obj _ _ st5)) r5 (step x H5 y5)) λ_ s6 zz=>by let(σ6,H6,I6,q6):=zz;show(i,_,σ6,H6,st5,I6,q6)
  have on:∀{i n m':Nat} {k:Uf} {σ6 H6 j},tn (i+1) k->Inv 'c' ([]++O0 fp k) σ6 H6 j->m'<n->W (i+1) m' σ6 H6->∃m,m<n/\∃i σc Hc,Inv 'c' [] σc Hc j/\tn i j.heap/\(∀b∈fp,Hc b=none)/\W i m σc Hc:=by intro i n m' k σ6 H6 j st5 I6 hm w7;show(m',hm,i+1,σ6,_,I6.unpinned,T.keep _ _ _ st5 λb hb o e=>(I6.pin #v[b,o] (Bk _ (Bk _ (Tb hb e)))).1,λb hb=>?_,w7);let(o,e,d):=T.obj _ _ st5 b hb;show(I6.pin #v[b,o] (Bk _ (Bk _ (Tb hb e)))).2.1
  have tru:∀{i n:Nat} {k:Uf} {σ6 H6 j},tn (i+1) k->Inv 'c' ([]++O0 fp k) σ6 H6 j->Y85 te W s2⁻¹ n i σ6 true H6->⇑X (eval elt (compEnvC scope cl' h3.objs.size X.env)) (λx e=>⇑X (call (.builtin "list.append") [.ref s2⁻¹,x]) (λ_ d=>∃m,m<n/\∃i σc Hc,Inv 'c' [] σc Hc d/\tn i d.heap/\(∀b∈fp,Hc b=none)/\W i m σc Hc) noE e) noE j:=by intro i n k σ6 H6 j st5 I6 q6;show thn (he _ _ _ _ _ _ _ j σ6 H6 _ I6 q6) λv s7 zz=>?_;let(y,H7,I7,r7,acc,hD,hlen,m',hm,w7):=zz;show thn (Gd _ s7 σ6 H7 (.ref s2⁻¹) [y] (.ref s2⁻¹) [v] (λ_ H8=>H8=upd H7 s2⁻¹ (.lst (acc++[y]))) I7 rfl (.cons r7 .nil) (_,acc,y,rfl,rfl,hD,hlen,rfl)) λ_ s8 zz=>?_;let(_,H8,I8,_,e8):=zz;subst e8;show on st5 I8 hm w7
  rcases hq with⟨rfl,rfl⟩|⟨c,rfl,hq⟩
  .show Z68 _ (λn s h=>Z06 (nxt n s h) λj zz=>by let(i,k,σ6,H6,a,b,d):=zz;show tru a b d) m0 i0
  .show Z86 _ (λn s h=>Z06 (nxt n s h) λj (i,k,σ6,H6,a,b,d)=>thn (hq _ _ _ _ _ _ _ j σ6 H6 _ b d) λok s6 (H7,I7,q7)=>by
    cases ok with
    | false=>let(m',hm,w7):=q7;show on a I7 hm w7
    | true=>show tru a I7 q7) m0 i0
 show codeAny_compStart_list loop (T.self _ 0 _ _ _ st4 loop)
def Zd2(O:X.calm=true)(F:O5 X.env.scope X.N N' js scope=true)(hi:PI X tg iter wi)(L:∀a C fp pins s H,PG (cxC X N' scope a C fp pins s H) tg g)(E:Cks X N' scope cs tc)(M:∀a C fp pins s H,PE (cxC X N' scope a C fp pins s H) elt te)
  (B:∀x,foldedSetIterable iter X.env x=pure x:=by intro _;rfl):PE X (.ListComp elt [(tg,iter,cs,0)] scope pos) (Y31 js wi g tc te):=by
 intro pins s l H Q I h;have S:=CompScope.of F;let(a,i,c1,c2):=Om (scope:=scope) (env:=X.env) λn G=>I.ok.has n (S.free n G);rw[eval_ListComp];show wpAny_comprehension_free (use:=none) rfl B i S.kind S.loc (thn (hi pins s l H _ I h) λv s1 V=>thn V λz s2 U=>?_);let(it,fp,tn,J,H2,e,I2,T,d,Y,t):=U;subst e;show Na (QD:=λD k=>Q (.ref D) k) (R:=λj C=>compPost (model X.prog X.w) X.A X.xe none (EP X pins l Q) j C) O S c1 c2 L E M I2 T d Y t ?_;rintro D C k q ⟨m,K⟩ J4 W y p Z u r;show(m,K,λh' f=>(.ref D,k,?_,rfl,r));show J4.turned (t':=q.toks) (λb o P e=>(f.2 b P).trans e) W y (.inr p) Z u
def Ys5(i:Nat)(js:List (Option Nat))(wi:TI)(g:TG)(tc:TT)(te:TE):TS:=λD a H=>Y31 js wi g tc te a H λv b=>D.nx (a.set i (some v)) b
def Ze4{i:Nat}{x:Str}{f d:Pos}(hc:X.calm=true)(ho:O5 X.env.scope X.N N' js scope=true)(hN:X.N.Nodup)(hx:X.N[i]?=some x)(K:X.env.scope.names.lookup x=some .local)(hi:PI X tg iter wi)
  (hg:∀j C fp pins s H,PG (cxC X N' scope j C fp pins s H) tg g) (u:Cks X N' scope cs tc) (he:∀j C fp pins s H,PE (cxC X N' scope j C fp pins s H) elt te)
  (r:swapsWith (.ListComp elt [(tg,iter,cs,0)] scope pos) (some (.Name x f)) d.line X.env=pure true)
  (hs:∀x,foldedSetIterable iter X.env x=pure x:=by intro _;rfl):PS X (.Assign [.Name x f] (.ListComp elt [(tg,iter,cs,0)] scope pos) d) (Ys5 i js wi g tc te):=by
 intro pins s p H D I h;have S:=CompScope.of ho;let(j,y,c1,c2):=Om (scope:=scope) (env:=X.env) λn hn=>I.ok.has n (S.free n hn);rw[exec_Assign_Name_used _ _ _ _ r];show Ag (wpAny_standAt (Ag ?_));change wpAny _ _ (do let _ <-comprehension (.ListComp elt [(tg,iter,cs,0)] scope pos) scope X.env _ (newList []) false (eval iter X.env) (some (assign (.Name x f) X.env))) _ _ s;show Ag (Hi (wpAny_comprehension_free (use:=some (assign (.Name x f) X.env)) (Q:=λ_ l=>SP X pins D .next l) rfl hs y S.kind S.loc (thn (hi pins s p H _ I h) λv s1 h1=>thn h1 λZ s2 h2=>?_)) (λ_ l u=>Ar (Ar u)) λ_ _ e=>e);let(it,fp,tn,J,H2,e,I2,T,q,f2,W):=h2;subst e;show Na (QD:=λk F=>D.nx (p.set i (↑k)) F) (R:=λE C=>compPost (model X.prog X.w) X.A X.xe (some (assign (.Name x f) X.env)) (λ_ l=>SP X pins D .next l) E C) hc S c1 c2 hg u he I2 T q f2 W ?_;rintro k C F U ⟨m,hm⟩ J4 fC G O L Y V;change wpAny _ _ (assign (.Name x f) X.env (.ref k)) _ _ U;show wpAny_assign_Name (Gi J4 hN hx (.inl K) (v:= .ref k) rfl (λP J5 zz=>?_) (.inr K));let(a,M,ha):=zz;have B:C≠a:=by
  rcases ha with z|z
  .rw[z];show G
  .exact(L x a z).symm
 show(m,hm.sameBut M B,λh' t=>(p.set i (↑k),F,?_,V));show J5.turned (t':=P.toks) (λb o hb e=>(t.2 b hb).trans e) fC G (.inr O) L Y
end
end L3
namespace L3
open PySem
def ExAt(h:Uf)(e:Uc)(b:Ua)(f:Option Uc)(d:Ua):Prop:=∃a c,h.get? e=some a/\(a.cls=b/\a.dict=f)/\a.data= .fields c/\c[1]?=some d
def TbAt(h:Uf)(T:Uc)(c:Ua):Prop:=∃b a,h.get? T=some b/\b.data= .fields a/\a[3]?=some c
structure Flown(fs xs:List Uc)(h h':Uf):Prop where
 keep:∀b o,h.get? b=some o->b∉fs->b∉xs->h'.get? b=some o
 slot:∀b o,h.get? b=some o->b∈fs->b∉xs->∃sl,h'.get? b=some {o with slots:=sl}
 there:∀b o,h.get? b=some o->∃o',h'.get? b=some o'
end L3
namespace L3
open PySem PySem.W
section
variable{prog:Ud}{w:Ue}{A:Around}{h:Uf}{g:Array GenState}{d:Drawn}{t:Nat}{os:OsState}
variable{nm q:Str}{C N f:Uc}{bs bm:LW}{hdct:Bool}{sn:LS}{sub:LW}{ab:Bool}{col:Option Bool}{dd:Option Uc}{k0 k1 k2 k3 k5:Option Ua}{Bn newId inN:String}{bmN:LW}
structure ExcCls(h:Uf)(C:Uc)(nm q:Str)(N:Uc)(bs bm:LW)(hdct:Bool)(sn:LS)(sub:LW)(ab:Bool)(col:Option Bool)(dd:Option Uc)(k0 k1 k2 k3 k5:Option Ua)(Bn newId:String):Prop where
 obj:h.get? C=some (excClassObj nm q C N bs bm hdct sn sub ab col dd k0 k1 k2 k3 k5 newId)
 hB:(Ay C::bm).contains (.type Bn)=true
 hA:(Ay C::bm).contains (.type "AttributeError")=false
 hN:(Ay C::bm).contains (.type "NameError")=false
 hE:(Ay C::bm).contains (.type "BaseException")=true
end
end L3
namespace L3
open PySem PySem.W PySem.Calls PyProof.Rows Builtin Builtin.ObjectAttr
section
variable{prog:Ud}{w:Ue}{A:Around}{K:Frag}{C e:Uc}{s:Ub}{name:Str}{R:Result->Ub->Prop}
def Y79(a:Ua):bindSpecial (.builtin "BaseException.__getattribute__") a=pure #v[.builtin "BaseException.__getattribute__",[a]]:=by kernel_rfl
def Ya8:builtinKind "BaseException.__getattribute__"=some .slot:='k'
def Zs6:splitId "BaseException.__getattribute__"=some #v["BaseException","__getattribute__"]:='k'
def Zt4:plainId "BaseException.__getattribute__"=true:='k'
def Yg4(a b:Ua):argsOk "BaseException.__getattribute__" ([a,b],[]):=by ext argsOk;kernel_rfl
end
end L3
namespace L3
open PySem PySem.Spec PyProof.Rows L2
def XO(e:Uc)(b:Ua)(f:Option Uc):HO:= .ext λh=>∃a c d,h.get? e=some a/\(a.cls=b/\a.dict=f)/\a.data= .fields c/\c[1]?=some d
def XO.at{w:Ue}{H:Hp}{h:Uf}{a:Ua}{c:Option Uc}(x:Yw P w H h e (XO e a c)):∃b,ExAt h e a c b:=by let((k,d,b,j,i,g,f),_):=x;show(b,k,d,j,i,g,f)
def CX1(P:Ud)(w:Ue):CXT:=λa H s E e c=>∃(d T:Uc) (b:Ua) (g:Option Uc) (f:Hp),e= .ref d/\c.os=s.os/\AllBare c.gens/\Un (frs a) [] H f s.heap c.heap/\HOk P w f c.heap/\
 (s⁻¹<=d/\s⁻¹<=T)/\f d=some (XO d b g)/\(f T=none/\T≠d)/\ExAt c.heap d b g (.ref T)/\TbAt c.heap T .none/\E b g f
structure ExcMk(K:Aa)(C f:Uc):Prop where
 cls:∃nm q N bs bm hdct sn sub ab col dd k0 k1 k2 k3 k5,K.lookup C=some (excClassObj nm q C N bs bm hdct sn sub ab col dd k0 k1 k2 k3 k5 "ValueError.__new__")/\(Ay C::bm).contains (.type "ValueError")=true/\
  (Ay C::bm).contains (.type "AttributeError")=false/\(Ay C::bm).contains (.type "NameError")=false/\(Ay C::bm).contains (.type "BaseException")=true
 init:Dr K (.ref C) "__init__"=some (↑f)
 fn:Lo K (.ref f)=true
 kp:Hg K (.ref C)=true
end L3
namespace L3
open PySem PySem.W PySem.Calls PyProof.Rows Builtin Builtin.ObjectAttr
section
variable{prog:Ud}{w:Ue}{A:Around}{E:VSP}{K:Frag}{C D e:Uc}{s:Ub}
structure ExcIs(K:Frag)(C:Uc):Prop where
 cls:∃cd,clsIn K C=some cd/\cd.hasDict=true
 ga:findIn K (.ref C) "__getattribute__"=some (some (.builtin "BaseException.__getattribute__"))
 gh:findIn K (.ref C) "__getattr__"=some none
 base:mroIn K C (.type "BaseException")=some true
 own:findIn K (.ref C) "__class__"=some (some (.builtin "object.__class__"))
 ds:specialIn K (.builtin "object.__class__") "__get__"=some (some (.builtin "getset_descriptor.__get__"))
 tk:takesIn K (.builtin "object.__class__")=some true
 obj:mroIn K C (.type "object")=some true
def Zm7(X:K.In s.heap)(S:ExcIs K C)(J:InstAt s.heap e B C (some od))(h:Q (↑C) {s with toks:=s.toks+1}):
  wpAny (model prog w) A (getAttr? (.ref e) "__class__") Q E s:=by
 let((L,p,o),m,l,b,c,n,j,f):=S;let(k,g,d,t,x):=s;have G:findObj K C (some od) "__class__"=some (.bind (.builtin "getset_descriptor.__get__") (.builtin "object.__class__")):=findObj_data (by rw[p];rfl) c n j;have u:=J.type (M:=model prog w);have I:=looks_findIn (M:=model prog w) X m;have H:=looks_findIn (M:=model prog w) X l;have q:=looks_find (M:=model prog w) X J G;have i:Looks (model prog w) k (isInstance (.ref e) (.type "BaseException")) true:=u.andThen (looks_mroIn X b);unfold getAttr? getAttrBy? getAttrBy;show Ag (wpAny_mkText (Ag (wpAny_attempt (Iv (Ag (u.at (Ag (I.at ?_))))))));change wpAny _ _ (getAttrByItsOwn _ _ _ _ _ _) _ _ _;ext getAttrByItsOwn;show Ag (H.at (Ag (wpAny_attempt (Iv ?_))));ext callGetattribute;rw[nb 'd'];ext boundAndCalled;rw[Y79];show Ag (Ar (wpAny_call ?_));show codeAny_call_builtin Zt4 F.entry_bexc_ga (@check_slot (model prog w) _ _ _ "BaseException.__getattribute__" "BaseException" "__getattribute__" (.ref e) [.str "__class__" t] [] _ Ya8 Zs6 i (Yg4 (.ref e) (.str "__class__" t)) ?_);change wpAny _ _ (typeOf (.ref e) >>=λy=>find (.ref e) y "__class__" >>=_) _ _ _;show Ag (u.at (Ag (q.at ?_)));have a:=class_get (prog:=prog) (w:=w) (A:=A.in1) (s:=(k,g,d,t+1,x)) (tp:= .ref C) (R:=λr v=>r= .ok (.ret (.ref C))/\v=(k,g,d,t+1,x)) X J f (rfl,rfl);ext bindTo;show Ag (Iv (wpAny_call (Mf a λr v z=>?_)));let(rfl,rfl):=z;show Ar ?_;change wpAny _ _ (handedOut (.ref C)) _ _ _;show handed_on rfl (Ar h)
end
end L3
namespace L3
open PySem PySem.Spec PyProof.Rows L2
section
variable{K:Aa}{C e:Uc}
def By{f od:Obj}(S:ExcIs K C):PySem.W.KitX K (.ref e) (.ref C) (λh=>PySem.W.InstAt h e f C (some od)) where
 ty:=λ_ _ _ I=>I.type
 it:=λ_ _ X _=>by
  let(i,a,_):=S.cls;ext a PySem.W.clsIn;split at a
  .rename_i c;intro r o p l k q;unfold isType loadHead;show Ag (wpAny_loadPart (k _ _ (X _ _ c)) (Ar q))
  .cases a
 ne:=λh d m g n j X b=>by
  let(i,a,_):=S.cls;show Bool.eq_false_iff.mpr λq=>?_;have z:C=d:=Ay.inj (beq_iff_eq.mp q);subst z;ext a PySem.W.clsIn;split at a
  .rename_i c;have y:=(X _ _ c).symm.trans b;cases y
  .cases a
 ca:=λX I k=>Zm7 X S I k
variable{X:Cx}{pins:PLO}{σ:L2.St}{H:Hp}{s:Ub}{dx:Uc}{fs:List (Str×V)}
def Bp(I:'v')(i:H e=some (XO e (.ref C) (some dx)))(hd:H dx=some (.xd fs)):∃(b od:Obj) (a:Str->Option Ua),PySem.W.InstAt s.heap e b C (some od)/\(∀name,Mh name od=some (a name))/\∀f,RelO (fs.lookup f) (a f):=by let(o,b,n,m,(l,k),j,_):=XO.at (I.hok e _ i);let(a,h,g):=(show Yw X.prog X.w H s.heap dx (.xd fs) from I.hok dx _ hd);let(od,d,c):=Fl h;show(b,od,a,(m,l,by ext PySem.W.notCls;rw[j],by rw[k];show d),c,g)
def rIsX(K:Aa):LV->Hp->VK->Prop:=λd H Q=>∃e C dx fs c a b,d=[.ref e,c]/\H e=some (XO e (.ref C) (some dx))/\H dx=some (.xd fs)/\ExcIs K C/\(∀u,RelV c u->u=a)/\Ka K (.ref C) a=some b/\Q (.bl b) H
def Z26:S3 X (.builtin "isinstance") (rIsX X.K):=by intro pins s σ H l m Q I r h;let(e,C,dx,fs,c,t,b,rfl,g,i,S,j,k,q):=h;let(u,v,rfl,f,d):=Zw1 r;obtain rfl:u=Ay e:=f;cases j v d;let(n,o,p,J,_):=Bp I g i;show Hj (By S) I.kIn J k (λz=>nomatch z) λa=>(.bl b,H,I.tok a,rfl,q)
end
def XP(X:Cx)(pins:PLO)(d:L2.St)(E:XK)(x:Ua)(s':Ub):Prop:=∃(e T:Uc) (a:Ua) (c:Option Uc) (b:Hp),x= .ref e/\Inv X pins d b s'/\FpOk X pins b T/\T≠e/\b e=some (XO e a c)/\
 ExAt s'.heap e a c (.ref T)/\TbAt s'.heap T .none/\E a c b
abbrev TEX:=L2.St->Hp->VK->XK->Prop
abbrev TSX:=Ends->XK->L2.St->Hp->Prop
section
open PySem.W
end
end L3
namespace L3
open PySem PyProof.Rows
section
variable{prog:Ud}{w:Ue}{A:Around}{E:VSP}{s:Ub}
abbrev Y14(h:Uf)(z d c:Uc)(a:Ua)(b:Bool):Prop:=
 h.get? z=some {cls:= .type "zip",dict:=none,data:= .fields #[a,.bool b,.bool false,.ref d,.ref c],slots:=#[]}
structure ZS(h0 h:Uf)(S z TI TO i1 i2 l1 l2:Uc)(xs ys:Array Ua)(Ts:List Uc):Prop where
 kept:∀b o,h0.get? b=some o->h.get? b=some o
 zp:(Ts=[]/\Y14 h z TI TO .none false/\∃a b,IsPair h TO a b)\/∃(T:Uc) (b:Bool) (oT:Obj),Y14 h z TI TO (rawInt T) b/\h.get? T=some oT
 ti:IsPair h TI (.ref i1) (.ref i2)
 to:∃o,h.get? TO=some o
 t1:h.IsListIter i1 l1 Ts.length
 t2:h.IsListIter i2 l2 Ts.length
 nd:Ts.Nodup
 tp:∀(j:Nat) T,Ts[j]?=some T->∃x y,xs[j]?=some x/\ys[j]?=some y/\IsPair h T x y
 tb:∀T∈Ts,h0.objs.size<=T/\T≠z/\T≠TO/\T≠i1/\T≠i2/\T≠S
structure ZF(h0:Uf)(S z TI TO i1 i2 l1 l2:Uc)(xs ys:Array Ua):Prop where
 D:ZipApart z TI TO i1 i2 l1 l2
 l1:h0.IsList l1 xs
 l2:h0.IsList l2 ys
 nz:h0.objs.size<=z
 nTO:h0.objs.size<=TO
 n1:h0.objs.size<=i1
 n2:h0.objs.size<=i2
 nS:h0.objs.size<=S
 sz:S≠z
 sTI:S≠TI
 sTO:S≠TO
 s1:S≠i1
 s2:S≠i2
end
end L3
namespace L3
open PySem PySem.Spec PyProof.Rows L2
section
variable{X:Cx}{pins:PLO}{σ:L2.St}{H H':Hp}{s:Ub}{h':Uf}
def S6:∀Ts:List Uc,Vals (Ts.map V.ref) (Ts.map Ay)
 | []=> .nil
 | _::r=> .cons rfl (S6 r)
end
section
variable{X:Cx}
def eqVs(vs ys:LV):Bool:=(Dn (min vs.length ys.length)).all (λj=>eqV (vs.getD j .non) (ys.getD j .non))&&vs.length==ys.length
def Zz9{x:V}(h:Wd x=true):eqV x x=true:=by cases x<;>first | rfl | show decide_eq_true rfl | show beq_self_eq_true _ | (simp[eqV];done) | show absurd (show false=true from h) Bf9
def Zi7(h:xs.all Wd=true):eqVs xs xs=true:=by ext eqVs;rw[Bz9,Hy];show(λj b=>?_,by simp);rw[Lm] at b;have a:j<xs.length:='o';rw[Hy] at h;rw[Dd,Ah a];show Zz9 (h _ (Hs a))
def Y70{H:Hp}{s:Ub}{a b:Uc}(I:Inv X pins j H s)(k:∀c o,c≠a->c≠b->s.heap.get? c=some o->h'.get? c=some o)(h:FpOk X pins H a)(g:FpOk X pins H b):Inv X pins j H {s with heap:=h',toks:=t'}:=by
 have p:∀c u,H c=some u->c≠a:=by intro c u e z;rw[z,h.1] at e;cases e
 have l:∀c u,H c=some u->c≠b:=by intro c u e z;rw[z,g.1] at e;cases e
 have i:∀c o,c∉[a,b]->s.heap.get? c=some o->h'.get? c=some o:=by
  intro c o f e;show k c o ?_ ?_ e
  .intro z;apply f;rw[z];simp
  .intro z;apply f;rw[z];simp
 show I.step (ch:=[a,b]) (g':=s.gens) (d':=s.drawn) ?_ ?_ ?_ ?_ ?_ ?_ ?_ ?_ ?_ ?_ I.bare
 .intro c f;have:c=a\/c=b:=by simpa using f
  rcases this with rfl|rfl
  .exact(h.2.2.2.1,h.2.1,h.2.2.2.2.1,h.2.2.2.2.2)
  .exact(g.2.2.2.1,g.2.1,g.2.2.2.2.1,g.2.2.2.2.2)
 .intro c o _ _ f e _;show i c o f e
 .intro c o _ _ f e _;show(o.slots,i c o f e)
 .intro _ _ _ _ n;show n
 .intro c o f e;show(o,i c o f e)
 .intro _ _ e;show e
 .intro _ _ _ e;show e
 .intro c A e;show(#[],by rw[e];simp)
 .rintro m ⟨o,x,y,t,r⟩;show(o,x,y,k _ o (Av h.2.1) (Av g.2.1) t,r)
 .intro c u e;show(I.hok c u e).stay ?_ (λ_ q=>q) λ_ _ q=>q;intro d v w q;rcases w with z|z
  .subst z;show k d v (p d u e) (l d u e) q
  .show k d v (p d _ z) (l d _ z) q
def Ite(K:Aa)(a:Uc):It:=
 (λi H=>∃b x,SqL K H a b/\b[i]?=some x,λi H x c=>∃p y,H p=none/\c=upd H p (.tup [.int i,y])/\x= .ref p/\∀b,SqL K H a b->b[i]?=some y,λi H=>∃b,SqL K H a b/\b.length<=i)
def Z62{h:Uf}{b:Uc}(e:(h.push o).get? b=some u):h.get? b=some u\/b=h.objs.size:=by
 by_cases a:b=h.objs.size
 .show .inr a
 .refine .inl ?_;have c:=Aw e;rw[Lp] at c;let(f,d):=Heap.get?_some_iff.mp e;show Heap.get?_some_iff.mpr (?_,d);cases h;simpa[Heap.push,Array.getElem?_push,a] using f
def Zn4{w:Ue}{K:Aa}{tp:Pos}(a e it:Uc)(t:e≠it):
  Turn P w K (.Tuple elts x1 tp) (Ite K a) [e,it] e (λi h=>(∃j,IsEnum h e it i j)/\h.IsListIter it a i) where
 mem:=by simp
 obj:=by
  rintro i h ⟨⟨j,n⟩,g⟩ b r;have:b=e\/b=it:=by simpa using r
  rcases this with rfl|rfl
  .exact(_,n,λv z=>by cases z)
  .let(o,e,c,d):=g;show(o,e,λv z=>by rw[d] at z;cases z)
 keep:=by rintro i h h' ⟨⟨j,n⟩,g⟩ k;show((j,k e 's' _ n),g.at λo z=>k it 's' o z)
 item:=by
  rintro X rfl rfl rfl V i l s S H E I D ⟨⟨j,n⟩,g⟩ ⟨xs,x,C,L⟩;let(J,F,p,hz):=I.list C;let(u,hu,ru):=F.get L;have fe:=D e 's';have Z:=D it 's';have G:e<s⁻¹:=Aw n;have U:it<s⁻¹:=by let(o,z,_):=g;show Aw z
  show wpAny_pyNext_enum_item n g p.isList (x:=u) ↥hu t λh1 ho y hT z0 hk=>?_;show(_,rfl,wpAny_letOwnedTupleGo_enum ho λO M m=>?_);replace m:Me e h1 O:=m;have N:O.get? s⁻¹=some {cls:= .type "tuple",data:= .seq #[.int i s.toks,u]}:=(m.2 _ (nk G)).trans hT;have hn:H s⁻¹=none:=I.hok.fresh (na _);have I1:Inv X l S (upd H s⁻¹ (.tup [.int i,x])) {s with heap:=s.heap.push {cls:= .type "tuple",data:= .seq #[.int i s.toks,u]},toks:=s.toks+1}:=by show I.laid (λb ob q=>Ap _ q) (na _) (show 2<=sizeLine by rw[Lf];lia,[.int i s.toks,u],.cons (_,rfl) (.cons ru .nil),(_,Di _ rfl,rfl,_,rfl))
  have B:∀b,b<s⁻¹->FpOk X l H b->FpOk X l (upd H s⁻¹ (.tup [.int i,x])) b:=by rintro b lb ⟨R,f⟩;show(?_,f);rw[Z7 (ni lb)];show R
  have I2:=Y70 (h':=O) (t':=s.toks+1) I1 (λc o Y r e'=>by
   rcases Z62 e' with z|z
   .exact(m.2 c Y).trans (hk c o Y r z)
   .subst z;have T:(s.heap.push {cls:= .type "tuple",data:= .seq #[.int i s.toks,u]}).get? s⁻¹=some o:=e';rw[Di _ rfl] at T;cases T;show N) (B e G fe) (B it U Z)
  show(.ref s⁻¹,_,I2,rfl,(_,x,hn,rfl,rfl,λys hy=>by rw[I.list_inj hy C];show L),((_,↥M),y.at λo z=>(m.2 it (Av t)).trans z),λb r=>?_);have:b=e\/b=it:=by simpa using r
  rcases this with rfl|rfl
  .exact(B _ G fe).1
  .exact(B _ U Z).1
 done:=by rintro X rfl rfl rfl V i l s S H E I D ⟨⟨j,n⟩,g⟩ ⟨xs,C,L⟩;let(J,F,p,hz):=I.list C;let(R,f1,f2,f3,f4,f5):=D it 's';have hl:=F.length;show wpAny_pyNext_enum_end (I.ok.hd V) n g p.isList (by simp;lia) λh' eb=>(rfl,I.turned (t':=s.toks) (λb o r e=>eb b o r e) R f1 f3 f4 f5)
 self:=by rintro A i s Q E ⟨⟨j,n⟩,g⟩ h;show wpAny_pyIter_enum n h
def Yx5(K:Aa)(f:TA):TI:=λc H R=>f c H λe b=>∃a,e=[V.ref a]/\(∃d,SqL K b a d)/\R (Ite K a) b
def Yb1{n:Nat}{tp:Pos}{l:Expr}{p pos:Pos}(C:Gl X "enumerate")(A:X.mg "enumerate"=none)(E:PA X [l] j)(y:starEach [l] X.env=[#v[false,eval l X.env]]):
  PI X (.Tuple elts n tp) (.Call (.Name "enumerate" p) [l] [] pos) (Yx5 X.K j):=by
 intro d s m H R I h;show Call_ (Ee I C A (u:= .type "enumerate") (by kernel_rfl) (PyProof.Rows.callWith_type1 (thn (E pos d s m H _ I h) λL c zz=>?_) y rfl));let(J,F,f,r,t):=zz;let(a,rfl,(G,z),q):=t;let(u,rfl,o):=Oa r;cases o;let(w,M,v,N):=f.list z;show call_enumerate_list v.isList λO k i x B=>?_;show wpAny_pyIter_enum k ?_;have g:c⁻¹+1≠c⁻¹:='o';show(c⁻¹+1,[c⁻¹+1,c⁻¹],_,_,F,rfl,f.kept (t':=c.toks) B,Zn4 a _ _ g,((_,k),i),λb D=>?_,q);have e:c⁻¹<=b:=by
  have:b=c⁻¹+1\/b=c⁻¹:=by simpa using D
  rcases this with rfl|rfl
  .show md _
  .show na _
 show f.fpOk e (f.hok.fresh e)
end
end L3
namespace PySem
def Ed:typeLookup (.type "list") "keys"=pure none:=by rw[typeLookup_type,builtinLookup_eq_fast];kernel_rfl
def Y77{w:Ue}{E:VSP}{s:Ub}{a:Uc}{k:Nat}
  (n:s.heap.get? a=some o) (p:o.cls= .type "list") (b:o.data= .seq xs k) (hd:o.dict=none) (i:typeLookup (.type "list") name=pure none) (f:(["__module__","__name__","__qualname__","__doc__","__annotations__"]:LS).contains name=false) (x:A.handled=none)
  (h:∀h' tk e,Heap.NewExcOf s.heap h' e "AttributeError"->E (.ref e) {s with heap:=h',toks:=tk}) (m:name.length+100<=sizeLine:=by size_fits):
  wpAny (model prog w) A (getAttrBy (.ref a) (.str name u) false) Q E s:=by
 let(c,y,z,r):=o;simp only at p b hd;subst p b hd;let(v,g,d,tk,t):=s;have q:∀j,((v,g,d,j,t):Ub).TypeIs (.ref a) "list":=λ_=>(_,n,rfl);have J:=sub_AttributeError;have I:=F.slot_list_getattribute.lookup;have H:=F.slot_list_getattribute.bind (.ref a);have G:=am_list_getattr_none;ext getAttrBy
 repeat (any_goals (first | assumption | show q _ | ((with_reducible show wpAny _ _ (call (Value.builtin "list.__getattribute__") _ _) _ _ _);show Lx F.slot_list_getattribute (q _) am_entry_list_getattribute (F.args_list_getattribute_2 _ _) (meets_getattribute_miss_list a xs k r name _ i f m) (n,x,λh' j e l=>?_)) | wp_step))
 let(C,B,D):=l.there;change wpAny _ _ (getattributeRaised _ _ _ _ _ _ _) _ _ _;ext getattributeRaised
 repeat (any_goals (first | assumption | wp_step))
 show h _ _ _ l.of
def Yi2{w:Ue}{E:VSP}{s:Ub}{a:Uc}{k:Nat}
  (hx:s.heap.get? a=some o) (hc:o.cls= .type "list") (hdat:o.data= .seq xs k) (hd:o.dict=none) (hA:A.handled=none)
  (h:∀h' tk,(∀b o,s.heap.get? b=some o->h'.get? b=some o)->Q none {s with heap:=h',toks:=tk}):wpAny (model prog w) A (getAttr? (.ref a) "keys") Q E s:=by
 let(hp,g,d,tk,os):=s;unfold getAttr? getAttrBy?;have f1:=sub_AttributeError
 repeat (any_goals (first | assumption | ((with_reducible show wpAny _ _ (getAttrBy _ _ false) _ _ _);show Y77 hx hc hdat hd Ed 'k' hA λh' tk' e hx'=>?_;let(ob,vs,he,hcl,_,_):=hx'.there;show Ag (wpAny_isInstance (T:="AttributeError") (ob,he,hcl) f1 ?_);show Ar (h h' tk' hx'.keeps)) | wp_step))
section
variable{prog:Ud}{w:Ue}{A:Around}{E:VSP}{R:Result->Ub->Prop}
def Sx:entryFor table "dict.update.loop"=some Builtin.«dict.update.loop»:=entryFor_of_tree (by kernel_rfl)
def Xq:plainId "dict.update.loop"=true:='k'
def Y62{K:Type}[DecidableEq K](knd:KeyKind prog w K)(h:Uf)(v:Ua)(p:K×Ua):Prop:=∃t u,v= .ref t/\h.IsTuple t #[u,p.2]/\knd.is p.1 u=true
def Z11{K:Type}[DecidableEq K]{knd:KeyKind prog w K}{h:Uf}{d I l:Uc}{i:Nat}{kvs:List (K×Ua)}(hd:h.DictOf knd d kvs)(f:h.IsListIter I l i):d≠I:=by rintro rfl;let(o,_,_,c,_,e,_):=hd;let(g,a,_,b):=f;rw[c] at a;cases a;rw[e] at b;cases b
def Ye9{K:Type}[DecidableEq K]{knd:KeyKind prog w K}{l I d:Uc}{items:Array Ua}{ps:List (K×Ua)}(hh:A.in1.handled=none)(hsz:items.size<sizeLine)(w0:ps.length=items.size):
  ∀(k i:Nat) (s:Ub) (kvs:List (K×Ua)) (t:Tok),items.size - i=k->i<=items.size->kvs.length<=i->
  s.heap.IsListIter I l i->s.heap.IsList l items->s.heap.DictOf knd d kvs->(∀(j:Nat) v p,items[j]?=some v->ps[j]?=some p->Y62 knd s.heap v p)->
  (∀h' tk,h'.DictOf knd d ((ps.drop i).foldl (λm p=>stored m p.1 p.2) kvs)->(∀b o,b≠I->b≠d->s.heap.get? b=some o->h'.get? b=some o)->R (.ok (.ret .none)) {s with heap:=h',toks:=tk})->
  codeAny (model prog w) A (.builtin "dict.update.loop" ([.ref d,.ref I,.int i t,.none],[])) R s:=by
 intro k;induction k with
 | zero=>intro i s kvs t hk hi U z J D Q q;have W:i=items.size:='o';show codeAny_builtin Sx ?_;rw[Around.under_plainId Xq _];change wpAny _ A.in1 (pyNext (.ref I) >>=_) _ _ s;show Ag (wpAny_pyNext_list_end hh z J (by rw[W];simp) λh' he=>?_);change wpAny _ _ (Builtin.Dict.addKeywords d [] >>=_) _ _ _;show Ag (Ar (Ar ?_));have y:=Z11 D z;show q h' _ ?_ λb o B _ e=>he b o B e;rw[List.drop_of_length_le 'o'];show D.extBut he y
 | succ k ih=>
  intro i s kvs t hk hi U z J D Q q;have S:i<items.size:='o';obtain⟨v,hv⟩:∃v,items[i]?=some v:=(_,Array.getElem?_eq_getElem S);obtain⟨p,C⟩:∃p,ps[i]?=some p:=(_,Ah 'o');show codeAny_builtin Sx ?_;rw[Around.under_plainId Xq _];change wpAny _ A.in1 (pyNext (.ref I) >>=_) _ _ s;show Ag (wpAny_pyNext_list_item z J hv λh' x0 P=>?_);let(tt,u,rfl,F,V):=Q i v p hv C;have y:=Z11 D z;have f:∀b o,b≠I->s.heap.get? b=some o->h'.get? b=some o:=λb o hb e=>(P.2 b hb).trans e;have tI:tt≠I:=by rintro rfl;let(o,g,_,n,x):=F;let(O,a,_,c):=z;rw[g] at a;cases a;rw[x] at c;cases c
  have lI:l≠I:=by rintro rfl;let(o,g,_,n,x):=J;let(O,a,_,c):=z;rw[g] at a;cases a;rw[x] at c;cases c
  have M:∀(b:Uc) (o:Obj) xs n,s.heap.get? b=some o->o.data= .seq xs n->b≠d/\b≠I:=by
   intro b o xs n g x;constructor
   .rintro rfl;let(O,_,_,a,_,c,_):=D;rw[g] at a;cases a;rw[x] at c;cases c
   .rintro rfl;let(O,a,_,c):=z;rw[g] at a;cases a;rw[x] at c;cases c
  let(ot,H,y0,nt,X):=id F;change wpAny _ _ (holding [.ref tt] _ >>=_) _ _ _;show Ag (Iv (Ag (wpAny_tryCatch ?_)));ext Builtin.Dict.pairItems;show Ag (Mg (T:="tuple") (ot,f _ _ tI H,y0) ?_);rw[nc 'd'];show Ag (wpAny_seqItems (f _ _ tI H) X ?_);show Ar ?_;change wpAny _ _ (holding [u,p.2] (dictSet d u p.2)) _ _ _;have z0:h'.DictOf knd d kvs:=D.extBut (λb o hb e=>f b o hb e) y;show Iv (wpAny_dictSet_pairs V z0 (λh2 Z G=>?_) 'o');show Ar (plainId_quiet Xq _,?_);have h:∀b o,b≠I->b≠d->s.heap.get? b=some o->h2.get? b=some o:=λb o B L e=>(G.2 b L).trans (f b o B e);have:=ih (i+1) {s with heap:=h2,toks:=s.toks+1} (stored kvs p.1 p.2) 0 'o' 'o' ?_ ?_ ?_ Z ?_ ?_
  .show this
  .unfold stored;split
   .rw[Al];lia
   .rw[Ac,Dg];lia
  .let(o,g,r):=x0;show(o,(G.2 I (Av y)).trans g,r)
  .let(o,g,x,n,r):=J;show(o,h _ _ (M _ _ _ _ g r).2 (M _ _ _ _ g r).1 g,x,n,r)
  .intro j v p' B L;let(t3,u3,e3,(o,g,x,n,r),g3):=Q j v p' B L;show(t3,u3,e3,(o,h _ _ (M _ _ _ _ g r).2 (M _ _ _ _ g r).1 g,x,n,r),g3)
  .intro L N Y k3;show q L N ?_ λb o B h4 e=>k3 b o B h4 (h b o B h4 e);rw[Hv (by lia:i<ps.length)];rw[Ah 'o'] at C;cases C;show Y
variable{s:Ub}
def Yg5{K:Type}[DecidableEq K]{knd:KeyKind prog w K}{l:Uc}{o:Obj}{n:Nat}{items:Array Ua}{ps:List (K×Ua)}{Q:VSP}(hh:A.handled=none)
  (ho:s.heap.get? l=some o) (hc:o.cls= .type "list") (hdat:o.data= .seq items n) (hdi:o.dict=none) (hsz:items.size<sizeLine) (hps:ps.length=items.size)
  (hp:∀(j:Nat) v p,items[j]?=some v->ps[j]?=some p->Y62 knd s.heap v p)
  (h:∀h' tk,h'.DictOf knd s⁻¹ (ps.foldl (λm p=>stored m p.1 p.2) [])->(∀b o,s.heap.get? b=some o->h'.get? b=some o)->Q (.ref s⁻¹) {s with heap:=h',toks:=tk}):
  wpAny (model prog w) A (call (.type "dict") [.ref l]) Q E s:=by
 show callType_codes (Q₁:=λobj s₁=>obj= .ref s⁻¹/\s₁={s with heap:=s.heap.push {cls:= .type "dict",data:= .dict #[]}}) F.kt_called_dict (F.kt_typeCall_dict_1 _) F.entry_dict_init (kt_code_dict_new _ (rfl,rfl)) ?_;rintro obj s₁ ⟨rfl,rfl⟩;have hnew:(s.heap.push {cls:= .type "dict",data:= .dict #[]}).DictOf knd s⁻¹ []:=Heap.DictOf.new s.heap;show(hnew.typeIs,F.args_dict_init_2 _ _,?_);unfold Builtin.«dict.__init__»;show Ag ?_;ext Builtin.Dict.selfAndRest;show Ag (wpAny_notOrdered_dict hnew.typeIs ?_);change wpAny _ _ (pure #v[s⁻¹,[Ay l]]) _ _ _;show Ar ?_;change wpAny _ _ (Builtin.Dict.updateFrom "dict.__init__" s⁻¹ (.ref l) [] .none) _ _ _;ext Builtin.Dict.updateFrom;have ho':(s.heap.push {cls:= .type "dict",data:= .dict #[]}).get? l=some o:=Ap _ ho;show Ag (Mg (T:="list") (o,ho',hc) ?_);rw[nc 'd'];show Ag (Yi2 ho' hc hdat hdi (by first | show hh | rfl) λh1 tk1 k1=>?_);erw[Option.isNone_none,if_true];have hl1:h1.IsList l items:=(o,k1 _ _ ho',hc,n,hdat);have hd1:h1.DictOf knd s⁻¹ []:=by let(q,es,ep,hq,r):=hnew;show(q,es,ep,k1 _ _ hq,r)
 have old:∀b o,s.heap.get? b=some o->h1.get? b=some o:=λb o e=>k1 b o (Ap _ e);show Ag (wpAny_rule ?_);show Ag (wpAny_pyIter_list hl1 ?_);show Ar (plainId_quiet Xq _,?_);show Ye9 (A:=A.in1) (knd:=knd) (ps:=ps) hh hsz hps _ 0 _ [] 0 rfl (nj _) (nj _) (_,Di _ rfl,rfl,rfl) (hl1.push _) (hd1.push _) ?_ ?_
 .intro j v p h2 h3;let(t,u,e,(q,hq,r),g):=hp j v p h2 h3;show(t,u,e,(q,Ap _ (old _ _ hq),r),g)
 .intro h' tk hd' hk;show(rfl,h h' tk hd' λb o e=>hk b o ?_ ?_ (Ap _ (old _ _ e)))
  .show ni (Aw (old _ _ e))
  .show ni (Aw e)
end
end PySem
namespace L3
open PySem PySem.Spec PyProof.Rows L2
section
variable{X:Cx}{pins:PLO}{σ:L2.St}{H:Hp}{s:Ub}
def Fz(K:Aa)(H:Hp):LV->List (Key×V)->Prop
 | [],[]=>True
 | v::r,p::q=>(∃t,v= .ref t/\SqT K H t [kV p.1,p.2])/\Fz K H r q
 | _,_=>False
def Br(I:'v'):∀(vs:LV) (its:LW) (ps:List (Key×V)),Vals vs its->Fz X.K H vs ps->∃a,KV ps a/\a.length=its.length/\∀(j:Nat) v p,its[j]?=some v->a[j]?=some p->Y62 (Yn X.prog X.w) s.heap v p
 | [],its,ps,r,h=>by
  cases ps with
  | cons _ _=>show h.elim
  | nil=>
   have:=r.length;cases its with
   | cons _ _=>simp at this
   | nil=>show([],by constructor,rfl,λj v p h=>by simp at h)
 | v::vs,its,ps,r,h=>by
  cases ps with
  | nil=>show h.elim
  | cons p ps=>
   let((t,rfl,x),h):=h;cases r with
   | @cons _ u _ its k r=>
   cases (show u=Ay t from k);let(y,l,b,_):=I.tuple x;let(f,e,rfl,i,g):=Zw1 l;let(a,o,n,m):=Br I vs its ps r h;show(#v[p.1,e]::a,.cons (rfl,g) o,by rw[Af,Af,n],λj v q d c=>?_);cases j with
   | zero=>cases d;cases c;show(t,f,rfl,b,Z95 i)
   | succ j=>show m j v q d c
def Y49:∀{ps:List (Key×V)} {a:List (Key×Ua)} {kvs:List (Key×V)} {vs:List (Key×Ua)},KV ps a->KV kvs vs->KV (ps.foldl (λm p=>putK m p.1 p.2) kvs) (a.foldl (λm p=>stored m p.1 p.2) vs):=by
 intro ps a kvs vs h;induction h generalizing kvs vs with
 | nil=>intro h;show h
 | cons e r ih=>intro h;rw[Le,Le];show ih ?_;rw[e.1];show h.put _ e.2
def Z14:∀(ps:List (Key×V)) (kvs:List (Key×V)),(ps.foldl (λm p=>putK m p.1 p.2) kvs).length<=kvs.length+ps.length
 | [],kvs=>na _
 | p::ps,kvs=>by rw[Le,Af];have:=Z14 ps (putK kvs p.1 p.2);have:=Tz kvs p.1 p.2;lia
def Zn9{K:Aa}:∀{vs:LV} {ps:List (Key×V)},Fz K H vs ps->vs.length=ps.length:=by
 intro vs ps h;induction vs generalizing ps with
 | nil=>
  cases ps with
  | nil=>rfl
  | cons _ _=>show Az h
 | cons v vs ih=>
  cases ps with
  | nil=>show Az h
  | cons p ps=>rw[Af,Af,ih h.2]
def Z52(B:X.calm=true):S3 X (.type "dict") (λxs H Q=>∃(a:Uc) (vs:LV) (ps:List (Key×V)),xs=[V.ref a]/\SqL X.K H a vs/\Fz X.K H vs ps/\vs.length<sizeLine/\
  ∀p,H p=none->Q (.ref p) (upd H p (.dK (ps.foldl (λm p=>putK m p.1 p.2) [])))):=by
 intro pins s σ H xs L Q I r h;let(a,vs,ps,rfl,y,f,M,q):=h;let(u,rfl,i):=Oa r;cases i;let(d,e,(o,n,z,E,D,C),_):=I.list y;let(c,x,t,l):=Br I vs d ps e f;have N:=e.length;have A:=Zn9 f;show Yg5 (knd:=Yn X.prog X.w) (ps:=c) (I.ok.hd B) z E C D (by rw[Ak];lia) (by rw[Ak];show t) (λj v p G F=>l j v p ↥G F) λO g J b=>?_;have k:=Z14 ps [];show(.ref _,_,I.laid (a:=s⁻¹) (o:= .dK (ps.foldl (λm p=>putK m p.1 p.2) [])) (t':=g) b (na _) (Zc8 (by rw[Dy] at k;lia) (beq_eq_false_iff_ne.mpr (Av (ni I.big))) (Y49 x .nil) J),rfl,q _ (I.hok.fresh (na _)))
end
end L3
namespace SW
open PySem
structure At(xs:Array Nat)(j i:Nat):Prop where
 le:i<=xs.size
 lo:∀k,k<i->xs.getD k 0<j
 hi:∀k,i<=k->k<xs.size->j<=xs.getD k 0
def TOk(t:SetTable)(led:Bool):Prop:=True
end SW
namespace SW
open PySem PyProof.Rows
section
variable{M:Model}{prog:Ud}{w:Ue}{A:Around}{E:VSP}{s:Ub}
inductive KeysOf {K:Type} [DecidableEq K] (knd:KeyKind prog w K):List K->List (Int×Ua)->Prop
 | nil:KeysOf knd [] []
 | cons {k:K} {e:Int×Ua} {ks:List K} {l:List (Int×Ua)} (h:knd.is k e.2=true) (r:KeysOf knd ks l):KeysOf knd (k::ks) (e::l)
variable{K:Type}[DecidableEq K]{knd:KeyKind prog w K}
structure SetO(knd:KeyKind prog w K)(led:Bool)(o:Obj)(ks:List K):Prop where
 ex:o.ExactSet
 dat:∃es ep t,o.data= .set es ep t/\ElemsOf knd es.toList/\KeysOf knd ks es.toList/\t.fits es.size=true/\TOk t led
 nd:ks.Nodup
 sm:ks.length<scanBound
end
section
variable{prog:Ud}{w:Ue}{A:Around}{E:VSP}{s:Ub}
end
end SW
namespace SW
open PySem PyProof.Rows PySem.W
end SW
namespace SW
open PySem PyProof.Rows
end SW
namespace L3
open PySem PySem.Spec PyProof.Rows L2
section
variable{X:Cx}{pins:PLO}{σ:L2.St}{H:Hp}{s:Ub}
def Sn:∀{vs:LW} {a:List Int},IntsAre vs a->Vals (a.map V.int) vs
 | _,_,.nil=> .nil
 | _,_,.cons n t r=> .cons (t,rfl) (Sn r)
def Zg8{prog:Ud}{w:Ue}{A:Around}{E:VSP}{s:Ub}{t b:Uc}{its:Array Ua}{g f:Ua}{lo hi:Option Int}{Q:VSP}(a:IsTup s.heap t its)(j:s.heap.IsSliceOf b g f .none)(pl:IsPart g lo)(k:IsPart f hi)
  (i:HT.sIx its.size 0 lo=0/\HT.sIx its.size its.size hi=its.size) (h:Q (.ref t) s):wpAny (model prog w) A (getItem (.ref t) (.ref b)) Q E s:=by
 let(l,c,d,m):=id j;have e:s.TypeIs (.ref b) "slice":=(l,c,d);ext getItem
 try with_reducible show Iv ?_
 first | show Ag (Ar ?_) | skip
 show Ag (wpAny_sequenceKey a.typeIs 'd' ?_);show Ag (wpAny_callSpecial?_slot (name:=Str.ofString "__getitem__") a.typeIs Hf (wpAny_call_entry Hf a.typeIs entry_tuple_getitem ?_ (args_tuple_getitem _ _)));change wpAny _ _ (Builtin.Tuple.tupleItemsOf (.ref t) >>=_) _ _ s;show Ag (tupleItemsOf_ a (Ag (Mg e ?_)));rw[nc 'd'];show Ag (HT.V5 j pl k ?_);change wpAny _ _ (if (((HT.sIx its.size 0 lo:Nat):Int)==0&&(1:Int)==1&&(HT.sIx its.size its.size hi - HT.sIx its.size 0 lo)==its.size)=true then _ else _) _ _ s;rw[nc (by rw[i.1,i.2];simp)];show Ag ?_;ext Builtin.Tuple.tupleIsExact;show Ag (Mg a.typeIs (Ar ?_));rw[nc 'd'];show Ag (wpAny_rule (Ar (_,rfl,Ar h)))
def Y74:SlR X (λx lo hi H Q=>∃a xs,x= .ref a/\SqT X.K H a xs/\(HT.sIx xs.length 0 lo=0/\HT.sIx xs.length xs.length hi=xs.length)/\Q x H):=by
 intro pins s σ H x v m l lo hi n Q I e k g f h;let(a,xs,rfl,i,j,q):=h;cases e;let(c,r,d,o):=I.tuple i;have b:c.toArray.size=xs.length:=by rw[Ak];show r.length.symm
 show("tuple",_,Hf.lookup,d.typeIs,Zg8 d k g f (by rw[b];show j) (.ref a,H,I,rfl,q))
end
end L3
namespace L2
open PySem PySem.Spec PyProof.Rows
variable{X:Cx}
end L2
namespace SW
open PySem PySem.Spec PyProof.Rows
section
variable{prog:Ud}{w:Ue}{A:Around}{E:VSP}{s:Ub}
def Z60:typeLookup (.type "list_reverseiterator") "__len__"=pure none:=by rw[typeLookup_type,builtinLookup_eq_fast];kernel_rfl
def Jk:Slot "list_reverseiterator" "__length_hint__" "list_reverseiterator.__length_hint__":=
 .of (owner:="list_reverseiterator") (n:="__length_hint__") (by rw[typeLookup_type,builtinLookup_eq_fast];kernel_rfl) 'k' 'k' 'k'
  (by first | show .inl 'k' | show .inr 'k') (by rw[isSubtype_type];kernel_rfl)
def Zx7{r:Uc}{Q:Bool->Ub->Prop}(d:s.TypeIs (.ref r) "list_reverseiterator")(h:Q false s):wpAny (model prog w) A (Builtin.List.listLengthHint (.ref r)) Q E s:=by
 ext Builtin.List.listLengthHint;show Ag (wpAny_specialOf d Z60 ?_);change wpAny _ A (specialOf (Ay r) (Str.ofString "__length_hint__") >>=_) _ _ _;show Ag (wpAny_specialOf d Jk.lookup ?_);generalize c:("list_reverseiterator.__length_hint__":String)=id0
 wp_delta
 rw[show splitId id0=some #v["list_reverseiterator","__length_hint__"] from by subst c;decide+kernel];subst c;show Ag (wpAny_isInstance (T:="list_reverseiterator") (b:=true) d (by rw[isSubtype_type];kernel_rfl) ?_);show wpAny_ite_split (λa=>absurd a 'd') (λ_=>?_);dsimp only;show wpAny_ite_split (λ_=>?_) (λa=>absurd 'k' a);show wpAny_ite_split (λa=>absurd a 'k') (λ_=>?_);show Ar h
def Yb6{I l S:Uc}{items:Array Ua}{res:Ua}{R:Result->Ub->Prop}(hh:A.handled=none)(hit:s.heap.IsRevIter I l ((items.size:Int) - 1))(hl:s.heap.IsList l items)(hz:items.size<=sizeLine)(hlI:l≠I)(hSI:S≠I)(hSl:S≠l)(c0:Nat)(hS:s.heap.get? S=some {cls:= .type "list",data:= .seq #[] c0})
  (hR:∀h' tk acc c',ItemsOf (λi v=>items[items.size - 1 - i]?=some v) acc items.size->(∀b u,b≠S->b≠I->s.heap.get? b=some u->h'.get? b=some u)->h'.get? S=some {cls:= .type "list",dict:=none,data:= .seq acc c',slots:=#[]}->R (.ok (.ret res)) {s with heap:=h',toks:=tk}):
  wpAny (model prog w) A.in1 (Kg (.ref S) (.ref I) res)
   (λfin s'=>match fin with | .done f=>R (.ok f) s' | .again c'=>c'.quiet=true/\codeAny (model prog w) A c' R s') (λe s'=>R (.error e) s') s:=by
 have W:=Walks.listRev (prog:=prog) (w:=w) (A:=A.in1) hh I l hlI items;have nf:S∉[I,l]:=by erw[Ab,Ia,or_false,not_or];show(hSI,hSl)
 have st0:0<=items.size/\s.heap.IsRevIter I l ((items.size:Int) - 1 - ((0:Nat):Int))/\s.heap.IsList l items:=(nj _,by rw[show(items.size:Int) - 1 - ((0:Nat):Int)=(items.size:Int) - 1 by lia];show hit,hl);have hT:=hit.typeIs;ext Kg;show Ag (Mg hT ?_);have q1:Builtin.List.listSameRef (.ref S) (.ref I)=false:=by simp[Builtin.List.listSameRef,hSI]
 have q2:(Ko "list_reverseiterator"==Ko "list")=false:='d';have q3:(Ko "list_reverseiterator"==Ko "tuple")=false:='d';erw[q1,q2,q3,Bool.or_false,Bool.false_eq_true,if_false];show Ag (wpAny_pyIter_revIter hit ?_);have key:∀(h2:Uf) (c1 tk:Nat),(0<=items.size/\h2.IsRevIter I l ((items.size:Int) - 1 - ((0:Nat):Int))/\h2.IsList l items)->(∀b u,b≠S->s.heap.get? b=some u->h2.get? b=some u)->h2.get? S=some {cls:= .type "list",data:= .seq #[] c1}->
   codeAny (model prog w) A (.builtin "list.extend.loop" ([.ref S,.ref I,res],[])) R {s with heap:=h2,toks:=tk}:=by
  intro h2 c1 tk st2 k2 g2;show codeAny_extend_loopS W.toS hz S nf res items.size 0 _ #[] c1 rfl (nj _) st2 g2 (ItemsOf.nil _) λs' acc c' mv hS' hacc=>?_;rw[Moved.eq_with mv];show hR s'.heap s'.toks acc c' hacc (λb u hb hI e=>mv.heap b u ?_ (k2 b u hb e)) hS';intro hm;rcases Ab.mp hm with z|z
  .show hb z
  .show hI (Aq.mp z)
 show Ag (Iv (Zx7 hT ?_));show wpAny_ite_split (λ_=>?_) λ_=>Ar (plainId_quiet PySem.F.plain_extend_loop _,key _ c0 _ st0 (λb u _ e=>e) hS);show Ag (wpAny_rule (Ag ?_));change wpAny _ _ (updateSeq S (·.push .none) >>=λ_=>updateSeq S (·.pop)) _ _ _;show Ag (wpAny_updateSeq hS rfl ?_);have g2:=Lq (Iu (·.push Lv)) hS rfl;show wpAny_updateSeq (hz:=by seq_fits) g2 rfl ?_;have g3:=Lq (Iu (·.pop)) g2 rfl;have far:∀b u,b≠S->s.heap.get? b=some u->((s.heap.update S (Iu (·.push Lv))).update S (Iu (·.pop))).get? b=some u:=λb u hb e=>(Kd _ _ (Av hb)).trans ((Kd _ _ (Av hb)).trans e);show Ar (plainId_quiet PySem.F.plain_extend_loop _,key _ _ _ (W.frame 0 _ _ st0 λb hb u e=>far b u (λz=>nf (z ▸ hb)) e) far g3)
def Zx9{I l S:Uc}{items:Array Ua}{R:Result->Ub->Prop}(G:A.handled=none)(x:s.heap.IsRevIter I l ((items.size:Int) - 1))(D:s.heap.IsList l items)(hz:items.size<=sizeLine)(t:l≠I)(k:S≠I)(j:S≠l)(z:s.heap.get? S=some {cls:= .type "list",data:= .seq #[]})
  (J:∀m q a g,ItemsOf (λi v=>items[items.size - 1 - i]?=some v) a items.size->(∀b u,b≠S->b≠I->s.heap.get? b=some u->m.get? b=some u)->m.get? S=some {cls:= .type "list",dict:=none,data:= .seq a g,slots:=#[]}->R (.ok (.ret .none)) {s with heap:=m,toks:=q}):
  wpAny (model prog w) A.in1 (Builtin.«list.__init__» ([.ref S,.ref I],[]))
   (λB n=>match B with | .done f=>R (.ok f) n | .again g=>g.quiet=true/\codeAny (model prog w) A g R n) (λe n=>R (.error e) n) s:=by
 change wpAny _ _ (do let old <-Builtin.List.listItems (.ref S);Builtin.List.listUpdate (.ref S) (λ_=>#[]);letGo old.toList.reverse;Kg (.ref S) (.ref I) .none) _ _ s;show Ag ?_;ext Builtin.List.listItems;show Ag (wpAny_seqItems z rfl (Ar ?_));change wpAny _ _ (updateSeq S (λ_=>#[]) >>=λ_=>letGo (#[]:Array Ua).toList.reverse >>=λ_=>Kg (.ref S) (.ref I) .none) _ _ s;show Ag (wpAny_updateSeq z rfl ?_);have d:=Lq (Iu (λ_=>(#[]:Array Ua))) z rfl;have c:∀b o,b≠S->s.heap.get? b=some o->(s.heap.update S (Iu (λ_=>(#[]:Array Ua)))).get? b=some o:=
  λb o p e=>(Kd _ _ (Av p)).trans e
 show Ag (wpAny_letGo ?_);let(C,r,h):=D;show Yb6 G (x.at λo e=>c _ o (Av k) e) (C,c _ C (Av j) r,h) hz t k j _ d λm q a g H F y=>?_;show J m q a g H (λb o p K e=>F b o p K (c b o p e)) y
def Nv{I l:Uc}{items:Array Ua}{Q:VSP}(z:A.handled=none)(j:s.heap.IsRevIter I l ((items.size:Int) - 1))(x:s.heap.IsList l items)(hz:items.size<=sizeLine)(m:l≠I)
  (C:∀h' tk a p,ItemsOf (λi v=>items[items.size - 1 - i]?=some v) a items.size->(∀b u,b≠I->s.heap.get? b=some u->h'.get? b=some u)->h'.get? s⁻¹=some {cls:= .type "list",dict:=none,data:= .seq a p,slots:=#[]}->Q (.ref s⁻¹) {s with heap:=h',toks:=tk}):
  wpAny (model prog w) A (call (.type "list") [.ref I]) Q E s:=by
 show callType_codes (Q₁:=λd c=>d= .ref s⁻¹/\c={s with heap:=s.heap.push {cls:= .type "list",data:= .seq #[]}}) PySem.F.called_list (PySem.F.typeCall_list_1 _) PySem.F.entry_list_init
  (code_list_new _ (rfl,rfl)) λd c f=>?_
 let(rfl,rfl):=f;have r:(s.heap.push {cls:= .type "list",data:= .seq #[]}).get? s⁻¹=some {cls:= .type "list",data:= .seq #[]}:=Di _ rfl;let(G,k,q):=id j;let(t,h,g):=id x;show((_,r,rfl),PySem.F.args_list_init_2 _ _,Zx9 (A:=A.in1) z (j.at λo e=>Ap _ e) (t,Ap _ h,g) hz m (nk (Aw k)) (nk (Aw h)) r (λh' tk a p B y n=>?_));show(rfl,C h' tk a p B (λb o D e=>y b o (ni (Aw e)) D (Ap _ e)) n)
end
end SW
namespace L3
open PySem PySem.Spec PyProof.Rows L2
section
variable{X:Cx}{pins:PLO}{σ:L2.St}{H:Hp}{s:Ub}
def Z27(m:Nat)(p l:Uc)(n:Nat):Uf->Prop:=λh=>h.IsRevIter p l ((n:Int) - 1)/\m<=p/\l≠p
def del(H:Hp)(p:Uc):Hp:=λb=>if b=p then none else H b
def Zu6{p S:Uc}(I:'v')(f:H p=some (.ext y))(E:X.s₀⁻¹<=p)(k:∀b u,b≠p->s.heap.get? b=some u->h'.get? b=some u)(t:s⁻¹<=S)(j:Yw X.prog X.w (upd (del H p) S o) h' S o):Inv X pins σ (upd (del H p) S o) {s with heap:=h',toks:=t'}:=by
 have i:∀b,H b=none->b≠p:=λb e z=>by subst z;rw[f] at e;cases e
 have B:H S=none:=I.hok.fresh t;have h:∀b g,H b=some g->b≠p->upd (del H p) S o b=some g:=λb g e n=>by rw[Z7 (λz=>by subst z;rw[B] at e;cases e)];ext del;rw[nb n];show e
 show I.step (g':=s.gens) (d':=s.drawn) (ch:=[p]) ?_ (λb o _ _ d e _=>k b o ↥d e) (λb o _ _ d e _=>(o.slots,k b o ↥d e)) (λb o d e n=>?_) (λb o d e=>(o,k b o ↥d e)) (λb A e=>h b _ e λz=>by subst z;rw[f] at e;cases e) (λb o u e=>h b _ e λz=>by subst z;rw[f] at e;cases e) (λb K e=>(#[],by rw[h b _ e λz=>by subst z;rw[f] at e;cases e];simp)) ?_ ?_ I.bare
 .intro b d;cases Aq.mp d;show(.inr E,λz=>i _ I.free z.symm,λx c e z=>i _ (I.freeC x c e) z,λq C z=>i _ (I.pin q C).2.1 z)
 .rw[Z7 (ni (ng (Aw e) t))];ext del;split
  .rfl
  .show n
 .rintro m ⟨o,F,G,D,r⟩;show(o,F,G,k _ _ (i _ I.free) D,r)
 .intro a g e;by_cases l:a=S
  .subst l;rw[Zf] at e;cases e;show j
  rw[Z7 l] at e;have v:a≠p:=λz=>by subst z;ext e del;rw[nc rfl] at e;cases e
  have J:H a=some g:=by ext e del;rw[nb v] at e;show e
  show(I.hok a g J).stay (λb u d q=>k b u (λz=>?_) q) (λb d=>h b _ d λz=>?_) λb A d=>h b _ d λz=>?_
  .subst z;rcases d with z|z
   .show v z.symm
   .rw[f] at z;cases z
  .subst z;rw[f] at d;cases d
  .subst z;rw[f] at d;cases d
def rRev(X:Cx):LV->Hp->VK->Prop:=λb H Q=>∃l a,b=[V.ref l]/\SqL X.K H l a/\∀p,H p=none->l≠p->Q (.ref p) (upd H p (.ext (Z27 X.s₀⁻¹ p l a.length)))
def Zs7:S3 X (.type "reversed") (rRev X):=by
 intro pins s σ H y z Q I r h;let(l,d,rfl,v,q):=h;let(u,rfl,j):=Oa r;cases j;let(c,i,m,A):=I.list v;have g:=m.isList;have f:l<s⁻¹:=by let(o,p,_):=g;show Aw p
 have t:c.toArray.size=d.length:=by rw[Ak,i.length]
 show call_reversed_list g ?_;have n:(s.heap.push (revObj l ((c.toArray.size:Int) - 1))).IsRevIter s⁻¹ l ((d.length:Int) - 1):=(_,Di _ rfl,rfl,by rw[<-t];rfl);show(.ref _,_,I.laid (a:=s⁻¹) (o:= .ext (Z27 X.s₀⁻¹ s⁻¹ l d.length)) (t':=s.toks) (λb o e=>Ap _ e) (na _) ((n,I.sz,ni f),(_,Di _ rfl),λC B zz k=>by let(x,w):=zz;show(x.at k,w)),rfl,q _ (I.hok.fresh (na _)) (ni f))
def Yk5(X:Cx):LV->Hp->VK->Prop:=λb H Q=>∃p l a,b=[V.ref p]/\H p=some (.ext (Z27 X.s₀⁻¹ p l a.length))/\SqL X.K H l a/\∀S,H S=none->Q (.ref S) (upd (del H p) S (.lst a.reverse))
def Z92(F:X.calm=true):S3 X (.type "list") (Yk5 X):=by
 intro pins s σ H J K Q I r h;let(p,l,m,rfl,x,E,q):=h;let(u,rfl,A):=Oa r;cases A;let((C,D,f),_,_):=I.hok p _ x;let(b,n,B,t):=I.list E;have y:b.toArray.size=m.length:=by rw[Ak,n.length]
 show SW.Nv (I.ok.hd F) (by rw[y];show C) B.isList (by rw[y];show t) f λL z a c j k g=>?_;have e:a=a.toList.toArray:=by simp
 rw[e] at g;show(.ref _,_,Zu6 (t':=z) I x D k (na _) (o:= .lst m.reverse) (by rw[Dp];show t,a.toList,c,?_,g),rfl,q _ (I.hok.fresh (na _)));have G:a.toList=b.reverse:=by
  show List.ext_getElem? λi=>?_;by_cases d:i<b.length
  .obtain⟨v,w⟩:∃v,a.toList[i]?=some v:=(_,Ah (by rw[Kz,j.1];simpa using d));have:=j.2 i v (by rw[<-Array.getElem?_toList];show w);rw[w,List.getElem?_reverse d,<-this];simp
  .rw[Ip (by rw[Kz,j.1];simpa using d),Ip ↥d]
 rw[G];show n.reverse
def Z91(bs:List Bool):((Dn bs.length).any λi=>(bs[i]?).getD false)=bs.any id:=by
 rw[Bool.eq_iff_iff,Hz,Hz];constructor
 .rintro⟨i,a,e⟩;rw[Lm] at a;rw[Ah a] at e;show(bs[i],Hs a,e)
 .rintro⟨b,c,e⟩;let(i,a,rfl):=List.mem_iff_getElem.mp c;show(i,Lm.mpr a,by rw[Ah a];show e)
def Zz3(C:X.calm=true):S3 X (.builtin "any") (λxs H Q=>∃l,∃bs:List Bool,xs=[V.ref l]/\SqL X.K H l (bs.map V.bl)/\Q (.bl (bs.any id)) H):=by
 intro pins s σ H xs G Q I r h;let(l,bs,rfl,z,q):=h;let(u,rfl,p):=Oa r;cases p;let(a,f,t,L):=I.list z;have c:=t.isList;have w:l<s⁻¹:=by let(o,x,_):=c;show Aw x
 have j:a.length=bs.length:=by rw[<-f.length,Al]
 show call_any_walk (wpAny_pyIter_list c ?_);show(s⁻¹,[s⁻¹,l],[s⁻¹],a.toArray.size,_,_,λi=>(bs[i]?).getD false,rfl,Walks.list (A:=X.A.in1) (I.ok.hd C) _ l (ni w) a.toArray,((_,Di _ rfl,rfl,rfl),c.push _),λi v J N O D d=>?_,λM n B=>?_)
 .have g:a[i]?=some v:=by simpa using D
  have k:i<bs.length:=by rw[<-j];show(Ai.mp g).1
  let(F,m,E):=f.get (show(bs.map V.bl)[i]?=some (.bl bs[i]) by rw[Dj,Ah k];rfl);rw[g] at m;cases m;cases E;dsimp only at d;rw[Ah k] at d;show wpAny_truthy_bool d
 .rw[Ak,j,Z91];show(.bl _,H,I.kept (t':=n) λb o e=>B b o (λy=>?_) (Ap _ e),rfl,q);rw[Aq.mp y] at e;show nn _ (Aw e)
def Zr5(I:'v')(o:X.A.units+64<cLine)(c:Bool){p b:Uc}(m:SqL X.K H p vs)(n:SqL X.K H b [])(q:Q (.bl (if c then !vs.isEmpty else vs.isEmpty)) H):
  ⇑X (compareOp (if c then .NotEq else .Eq) (.ref p) (.ref b)) (EP X pins σ Q) X.xe s:=by
 let(g,r,d,_):=I.list m;let(f,k,a,_):=I.list n;have l:f=[]:=by cases k;rfl
 subst l;cases vs with
 | nil=>
  cases r;cases c with
  | true=>show SeqAt.RcNeAt.lists (e:=λ_=>true) d.isList a.isList rfl 'o' (λj h=>absurd h (Nat.not_lt_zero _)) _ _ _ _ (.bl _,H,I,rfl,q)
  | false=>show SeqAt.RcAt.lists (e:=λ_=>true) d.isList a.isList rfl 'o' (λj h=>absurd h (Nat.not_lt_zero _)) _ _ _ _ (.bl _,H,I,rfl,q)
 | cons v vs=>
  have i:(g.toArray.size !=([]:LW).toArray.size)=true:=by cases r;rfl
  cases c with
  | true=>show SeqAt.RcNeAt.lists_lengths d.isList a.isList i 'o' _ _ _ _ (.bl _,H,I,rfl,q)
  | false=>show SeqAt.RcAt.lists_lengths d.isList a.isList i 'o' _ _ _ _ (.bl _,H,I,rfl,q)
def Y82(I:'v')(L:X.A.units+64<cLine)(c:Bool){a b:Uc}(F:SqT X.K H a vs)(E:SqT X.K H b ys)(v:vs.all Wd=true)(t:ys.all Wd=true)(q:Q (.bl (if c then !eqVs vs ys else eqVs vs ys)) H):
  ⇑X (compareOp (if c then .NotEq else .Eq) (.ref a) (.ref b)) (EP X pins σ Q) X.xe s:=by
 let(f,m,l,_):=I.tuple F;let(d,g,k,_):=I.tuple E;have D:=m.length;have C:=g.length;have o:∀j (r:j<f.toArray.size) (p:j<d.toArray.size),Dt X.A.in1 s f.toArray[j] d.toArray[j] (eqV (vs.getD j .non) (ys.getD j .non)):=λj r p=>by
  have i:j<vs.length:=by rw[Ak] at r;lia
  have h:j<ys.length:=by rw[Ak] at p;lia
  let(u,J,B):=m.get (Ah i);let(w,G,z):=g.get (Ah h);have y:f.toArray[j]=u:=by have:=(Ai.mp J).2;simpa using this
  have x:d.toArray[j]=w:=by have:=(Ai.mp G).2;simpa using this
  rw[y,x,Dd,Dd,Ah i,Ah h];rw[Hy] at v t;show Zd8 B z (v _ (Hs i)) (t _ (Hs h))
 have n:((Dn (min f.toArray.size d.toArray.size)).all (λj=>eqV (vs.getD j .non) (ys.getD j .non))&&f.toArray.size==d.toArray.size)=eqVs vs ys:=by ext eqVs;rw[Ak,Ak,D,C]
 cases c with
 | true=>show SeqAt.RcNeAt.tuples (e:=λj=>eqV (vs.getD j .non) (ys.getD j .non)) l k 'o' o _ _ _ _ (.bl _,H,I,rfl,by rw[n];show q)
 | false=>show SeqAt.RcAt.tuples (e:=λj=>eqV (vs.getD j .non) (ys.getD j .non)) l k 'o' o _ _ _ _ (.bl _,H,I,rfl,by rw[n];show q)
end
end L3
namespace ZT
open PySem PyProof.Rows
structure Nx(P:Ud)(w:Ue)(i l:Uc)(its:Array Ua)(St:Nat->Uf->Prop):Prop where
 obj:∀k h,St k h->∃o,h.get? i=some o/\o.cls≠ .type "zip"/\∀v,o.data≠ .cell v
 stay:∀k h h',St k h->(∀b o,b=i\/b=l->h.get? b=some o->h'.get? b=some o)->St k h'
 item:∀{A:Around} {E:VSP} {s:Ub} {k:Nat} {x:Ua} {Q:VSP},St k s.heap->its[k]?=some x->(∀h',St (k+1) h'->Me i s.heap h'->Q x {s with heap:=h'})->wpAny (model P w) A (Builtin.SmallTypes.nextOf (.ref i)) Q E s
 done:∀{A:Around} {E:VSP} {s:Ub} {k:Nat} {Q:VSP},A.handled=none->St k s.heap->its[k]?=none->(∀h' e,(∀c o,c≠i->s.heap.get? c=some o->h'.get? c=some o)->(∃o,h'.get? e=some o/\o.cls= .type "StopIteration")->E (.ref e) {s with heap:=h'})->wpAny (model P w) A (Builtin.SmallTypes.nextOf (.ref i)) Q E s
end ZT
namespace L3
open PySem PySem.Spec PyProof.Rows L2
section
variable{X:Cx}{CX:CXT}{k:Nat}{f C:Uc}{fd:FuncData}{ps:LS}{sp:Sp}{E:XK}{m:Str}{apos pos:Pos}{e o:Expr}{es:List Expr}{ta:TE}{t:TA}{dvs:LV}{ds:LW}
def Pa{E:VSP}{w:Ue}{s:Ub}
  (b:attributeBase o m env (eval o env)=eval o env)
  (g:methodCallForm (args.length+([]:List Keyword).length) (backTo pos (starEach args env)) (backToKw pos (keywordEach [] env))=true) (a:(apos.endLine==pos.line)=true)
  (h:wpAny (model prog w) A (eval o env) (λl n=>wpAny (model prog w) A (getMethod l m (do return (<-importBound o env).getD true)) (λp j=>wpAny (model prog w) A (callWith pos p.1 p.2 (backTo pos (starEach args env)) (backToKw pos (keywordEach [] env))) Q E j) E n) E s):
  wpAny (model prog w) A (eval (.Call (.Attribute o m apos) args [] pos) env) Q E s:=by
 rw[arm_eval_Call,b];show Ag (Hi h (λl i c=>?_) λ_ _ e=>e);show Ag (wpAny_standAt ?_);have d:methodCallPos true o env apos pos=pure pos:=by ext methodCallPos;simp[a]
 ext methodCall;rw[g];show Ag (Iv (Hi c (λp j q=>?_) λ_ _ e=>e));show Ag (wpAny_of_eq d q)
def Zv4(O:PE X o ta)(c:Cls X.K C)(v:Meth X.K C m f)(F:FnOk X.prog X.w X.K X.mg X.base CX k f fd ps sp)(N:Room k X.A)(P:Wt X.K fd ps ds)(hd:Vals dvs ds)(M:Ry CX X E)(R:PA X (e::es) t)
  (g:attributeBase o m X.env (eval o X.env)=eval o X.env) (i:methodCallForm ((e::es).length+([]:List Keyword).length) (backTo pos (starEach (e::es) X.env)) (backToKw pos (keywordEach [] X.env))=true) (d:(apos.endLine==pos.line)=true)
  (j:starEach (e::es) X.env=#v[false,eval e X.env]::starEach es X.env) (n:(backTo pos (starEach es X.env)).any (·.1)=false):
  PE X (.Call (.Attribute o m apos) (e::es) [] pos) (Y84 C m sp dvs E ta t):=by
 intro b s p H Q I h;show Pa g i d (thn (O b s p H _ I h) λu G zz=>?_);let(x,U,z,J,a,Z,Y,S,T,l,q):=zz;subst S;obtain rfl:u=Ay a:=J;show Og z T c v l ?_;show PySem.W.callWith_K (first:=[.ref a]) (h₀:=X.base) I.ok.mod.kin v.kp (thn (R pos b G p U _ z q) λD V (B,H2,y,r,L)=>(y.kIn,?_)) j n;show Bm (us:= .ref a::D) (vs:= .ref a::B) F N P hd M y (.cons rfl r) L
def Zk5(y:PE X o ta)(c:Cls X.K C)(j:Meth X.K C m f)(F:FnOk X.prog X.w X.K X.mg X.base CX k f fd ps sp)(v:Room k X.A)(z:Wt X.K fd ps ds)(hd:Vals dvs ds)(r:Ry CX X E)
  (d:attributeBase o m X.env (eval o X.env)=eval o X.env) (b:(apos.endLine==pos.line)=true):PE X (.Call (.Attribute o m apos) [] [] pos) (Y84 C m sp dvs E ta tNil):=by
 intro g s n H Q I h;show Pa d rfl b (thn (y g s n H _ I h) λu G zz=>?_);let(x,M,i,p,a,L,J,B,D,l,q):=zz;subst B;obtain rfl:u=Ay a:=p;show Og i D c j l ?_;show PySem.W.callWith_K0 (first:=[.ref a]) i.kIn j.kp (Bm (us:=[.ref a]) (vs:=[.ref a]) F v z hd r i (.cons rfl .nil) q)
end
section
variable{X:Cx}{m:Str}{apos pos:Pos}{o:Expr}{ta:TE}
def Z57{f:List Expr}(g:PE X o ta)(b:attributeBase o m X.env (eval o X.env)=eval o X.env)(d:methodCallForm (f.length+([]:List Keyword).length) (backTo pos (starEach f X.env)) (backToKw pos (keywordEach [] X.env))=true)(a:(apos.endLine==pos.line)=true):
  PE X (.Call (.Attribute o m apos) f [] pos) (λe H _=>ta e H λ_ _=>False):=by
 intro c s e H Q I h;show Pa b d a (thn (g c s e H _ I h) λu i zz=>by let(x,l,k,j,q):=zz;show q.elim)
end
abbrev o1(l:V):List (Str×V):=[#v["line",l]]
abbrev o2(l a:V):List (Str×V):=[#v["line",l],#v["lists",a]]
abbrev o3(l a b:V):List (Str×V):=[#v["line",l],#v["lists",a],#v["goings",b]]
def Zg7(K:Aa):Sp:=λb H Q _=>∃x C a l,b=[.ref x,l]/\H x=some (.ins C a [])/\Cls K C/\W6 K C "line"/\W6 K C "lists"/\W6 K C "goings"/\
 ∀p q g,(upd H x (.ins C a (o1 l))) p=none->(upd (upd H x (.ins C a (o1 l))) p (.lst [])) q=none->(upd (upd (upd (upd H x (.ins C a (o1 l))) p (.lst [])) q (.lst [.ref p])) x (.ins C a (o2 l (.ref q)))) g=none->
  Q .non (upd (upd (upd (upd (upd (upd H x (.ins C a (o1 l))) p (.lst [])) q (.lst [.ref p])) x (.ins C a (o2 l (.ref q)))) g (.lst [.bl true])) x (.ins C a (o3 l (.ref q) (.ref g))))
def pf2{l v:V}:putF "lists" v (o1 l)=o2 l v:=by unfold o1 putF;rw[nb 'd'];rfl
def pf3{l a v:V}:putF "goings" v (o2 l a)=o3 l a v:=by unfold o2 putF;rw[nb 'd'];ext putF;rw[nb 'd'];rfl
def Zt5(st:Stmt):Prop:=∃q p o n m l k i g f d c b a j,Y9 st=[.Assign [.Attribute (.Name "self" q) "line" p] (.Name "line" o) n,.Assign [.Attribute (.Name "self" m) "lists" l] (.List [.List [] k] i) g,.Assign [.Attribute (.Name "self" f) "goings" d] (.List [.Constant (.bool true) j c] b) a]
def Y66{w:Ue}{K:Aa}{st:Stmt}{f:Uc}{F B c y a G M:Ua}
  (T:K.lookup f=some (M,od,.func (Hh name qual (X8 st) (Y9 st) (Zi st) F B c y I a G),m)) (t:Im K a qual=true) (S:FnScope ["self","line"] ["self","line"] (Zi st)) (U:Zt5 st)
  (u:(Zi st).names.lookup ("self":Str)=some .local) (V:(Zi st).names.lookup ("line":Str)=some .local):
  FnOk P w K mg base CX0 1 f (Hh name qual (X8 st) (Y9 st) (Zi st) F B c y I a G) ["self","line"] (Zg7 K):=by
 show Yk1 T t S (λL H Q E zz=>by let(x,C,b,l,h,_):=zz;rw[h];rfl) λA k s H L Q E hr o=>?_;let(x,C,b,l,rfl,Y,v,R,O,N,q):=o;let(p1,p2,p3,p4,q1,q2,q3,q4,q5,r1,r2,r3,r4,r5,j,X):=U;rw[X];show(_,Nr (Zl7 (Gw (i:=0) rfl (.inl u)) (Gw (i:=1) rfl (.inl V)) rfl) (Nr (Zl7 (Gw (i:=0) rfl (.inl u)) (Z40 (Wu (Z40 Th) Th)) rfl) (Yg9 (Zl7 (Gw (i:=0) rfl (.inl u)) (Z40 (Wu Yj6 Th)) rfl))),?_);have n:∀{p},(upd H x (.ins C b (o1 l))) p=none->x≠p:=fun{p} h z=>by subst z;rw[Zf] at h;cases h
 show(l,rfl,.ref x,rfl,x,C,b,[],rfl,Y,v,R,'d',?_);show('d',λp D=>(by change 1<=sizeLine;decide,λe r=>(.ref x,rfl,x,C,b,o1 l,rfl,?_,v,O,by change 1<1000;decide,?_)))
 .have J:=n D;have a2:x≠e:=λz=>by subst z;rw[Z7 J,Zf] at r;cases r
  rw[Z7 a2,Z7 J,Zf];rfl
 show('d',λg d=>(.ref x,rfl,x,C,b,o2 l (.ref e),rfl,?_,v,N,by change 2<1000;decide,?_))
 .have Z:x≠g:=λz=>by subst z;rw[Zf] at d;cases d
  rw[Z7 Z,Zf,pf2]
 have:=q p e g D r (by rw[pf2] at d;show d);rwa[<-pf3,<-pf2] at this
def Zy1:V->LV->Hp->VK->Prop:=λx d H Q=>∃l b c a,x= .ref l/\d=[.ref b]/\H l=some (.lst c)/\H b=some (.tup a)/\c.length+a.length<=sizeLine/\Q .non (upd H l (.lst (c++a)))
def Y61(l:Uc)(items:Array Ua)(n:Nat)(b:Uc)(a:Array Ua)(m:¬(!items.isEmpty&&Hx (items.size+a.size))=true)(i:items.size<=sizeLine)(f:items.size+a.size<=sizeLine+1):
  Meets (Builtin.«list.extend» ([.ref l,.ref b],[])) (λ_ R s=>s.heap.get? l=some (.type "list",none,.seq items n,#[])/\IsTup s.heap b a/\R (.ok (.ret Lv)) {s with heap:=s.heap.update l (Iu λx=>x++a)}):=by
 show .of_wp λj w A R s h=>?_;let(y,g,d,r,u):=s;let(k,((c,E,F,t),q,p,v,o),h):=h;subst p o;have D:=sub_tuple_tuple;have C:=sub_list_list;have B:=sub_tuple_list;have z:=sub_list_tuple;have e:(items++a).size<=sizeLine+1:=by rw[Array.size_append];show f
 wp_walk using (wpAny_updateSeq k rfl (hz:=i) (_hz':=e)),wpAny_loadPart' k,wpAny_loadPart' q
 show(_,rfl,h)
def Z69:MtM X "list.extend" Zy1:=by
 intro i s y H x D v E Q I k m h;let(l,b,C,A,rfl,rfl,j,t,G,q):=h;cases k;let(u,rfl,o):=m.one;cases o;let(z,c,n,r,J,e):=I.lstM j;let(a,g,w,B):=I.tuple (SqT.of t);have p:=g.length;have f:c.toArray.size+a.toArray.size<=sizeLine:=by rw[Ak,Ak];lia
 have d:¬(!c.toArray.isEmpty&&Hx (c.toArray.size+a.toArray.size))=true:=by rw[Nz f,Bool.and_false];show Bf9
 show Lx F.slot_list_extend (_,e,rfl) F.entry_list_extend (F.args_list_extend_2 _ _)
  (Y61 l c.toArray n b a.toArray d (by rw[Ak];lia) 'o') (e,w,?_)
 show(.non,_,I.lset (its':=c++a) j e 's' (r.append g) ?_,rfl,q);rw[Ac];lia
end L3
namespace U
open PySem PySem.Spec PyProof.Rows L2 L3
inductive D where
 | non | bl (b:Bool) | int (i:Int) | str (x:Str) | tup (ds:List D) | ref (n:Nat) | ty (n:String) | gtup (ds:List D) | cls (a:Uc) | exn (e C dx:Uc) (row:D) | obj (p C dx:Uc) (x y z:D)
inductive Cell where
 | lst (ds:List D) | frz (ds:List D) | dct (kvs:List (Key×D)) | fdc (kvs:List (Key×D)) | dcp (kvs:List (List Key×D))
abbrev LD:=List D
abbrev KQ9:=List (Key×D)
abbrev Z3:=List Cell
abbrev DEnv:=List (Option D)
abbrev DK:=D->Z3->Prop
abbrev DX:=Uc->D->Z3->Prop
abbrev DE:=DEnv->Z3->DK->Prop
abbrev DA:=DEnv->Z3->(LD->Z3->Prop)->Prop
abbrev DT:=DEnv->Z3->(Bool->Z3->Prop)->Prop
abbrev DSp:=LD->Z3->DK->DX->Prop
structure DEnds where
 nx:DEnv->Z3->Prop
 rt:DK
 bk:DEnv->Z3->Prop:=λ_ _=>False
 ct:DEnv->Z3->Prop:=λ_ _=>False
abbrev DS:=DEnds->DEnv->Z3->Prop
structure Vw where
 K:Aa
 H:Hp
 μ:Nat->Uc
 n:Nat
mutual
def RD(w:Vw):D->V->Prop
 | .non,v=>v= .non
 | .bl b,v=>v= .bl b
 | .int i,v=>v= .int i
 | .str x,v=>v= .str x
 | .tup h,v=>∃a c,v= .ref a/\w.H a=some (.tup c)/\RDs w h c
 | .ref i,v=>i<w.n/\v= .ref (w.μ i)
 | .ty n,v=>v= .ty n
 | .gtup h,v=>∃a c,v= .ref a/\SqT w.K w.H a c/\RDs w h c
 | .cls a,v=>v= .ref a
 | .exn e C f g,v=>v= .ref e/\w.H e=some (XO e (.ref C) (some f))/\∃r,w.H f=some (.xd [#v["row",r]])/\RD w g r
 | .obj p C f x y z,v=>v= .ref p/\∃a b d,w.H p=some (.ins C f [#v["line",a],#v["lists",b],#v["goings",d]])/\RD w x a/\RD w y b/\RD w z d
def RDs(w:Vw):LD->LV->Prop
 | [],a=>a=[]
 | d::b,a=>∃v r,a=v::r/\RD w d v/\RDs w b r
end
def RKV{b:Type}(w:Vw):List (b×D)->List (b×V)->Prop
 | [],a=>a=[]
 |#v[k,d]::c,a=>∃v r,a=#v[k,v]::r/\RD w d v/\RKV w c r
def SqF(K:Aa)(H:Hp)(a:Uc)(vs:LV):Prop:=(∃o,H a=some (.frz o (.lst vs)))\/SqL K (λ_=>none) a vs
def Cell.mut:Cell->Bool
 | .frz _=>false
 | _=>true
def Ja(w:Vw):Cell->Uc->Prop
 | .lst d,a=>∃b,w.H a=some (.lst b)/\RDs w d b
 | .frz d,a=>∃b,SqF w.K w.H a b/\RDs w d b
 | .dct c,a=>∃b,w.H a=some (.dK b)/\RKV w c b
 | .fdc c,a=>∃o b,w.H a=some (.frz o (.dK b))/\RKV w c b
 | .dcp c,a=>∃b,w.H a=some (.dT b)/\RKV w c b
structure RS(w:Vw)(M:Z3):Prop where
 len:w.n=M.length
 inj:∀(i j:Nat) (ci cj:Cell),M[i]?=some ci->M[j]?=some cj->ci.mut=true->cj.mut=true->w.μ i=w.μ j->i=j
 cell:∀i c,M[i]?=some c->Ja w c (w.μ i)
def Imm:HO->Bool
 | .tup _ | .xd _ | .ext _ | .frz _ _ | .ins _ _ _=>true
 | _=>false
structure Ext(w w':Vw):Prop where
 K:w'.K=w.K
 n:w.n<=w'.n
 μ:∀i,i<w.n->w'.μ i=w.μ i
 imm:∀a o,w.H a=some o->Imm o=true->w'.H a=some o
def Ext.refl(w:Vw):Ext w w:=(rfl,na _,λ_ _=>rfl,λ_ _ h _=>h)
def Ext.trans{a b c:Vw}(x:Ext a b)(y:Ext b c):Ext a c:=
 (y.K.trans x.K,nh x.n y.n,λi h=>(y.μ i (ng h x.n)).trans (x.μ i h),λp o h q=>y.imm p o (x.imm p o h q) q)
def Ext.sqT{w b:Vw}(x:Ext w b){a:Uc}(h:SqT w.K w.H a vs):SqT b.K b.H a vs:=by
 rw[x.K];rcases h with(h|⟨o,h⟩)|h
 .show .inl (.inl (x.imm _ _ h rfl))
 .show .inl (.inr (o,x.imm _ _ h rfl))
 .show .inr h
structure Ext0(w w':Vw):Prop where
 K:w'.K=w.K
 n:w.n<=w'.n
 μ:∀i,i<w.n->w'.μ i=w.μ i
 imm:∀a o,w.H a=some o->Imm o=true->(∀ob kvs,o≠ .frz ob (.dK kvs))->w'.H a=some o
mutual
theorem RD.ext0{w g:Vw}(x:Ext0 w g):∀{d:D} {v:V},RD w d v->RD g d v
 | .non,v,h=>h
 | .bl b,v,h=>h
 | .int i,v,h=>h
 | .str _,v,h=>h
 | .tup y,v,h=>by unfold RD at *;let(a,c,e,q,r):=h;show(a,c,e,x.imm _ _ q rfl (λ_ _ z=>by cases z),RDs.ext0 x r)
 | .ref i,v,h=>by unfold RD at *;show(ng h.1 x.n,by rw[x.μ i h.1];show h.2)
 | .ty n,v,h=>h
 | .gtup y,v,h=>by
  unfold RD at *;let(a,c,e,q,r):=h;show(a,c,e,?_,RDs.ext0 x r);rw[x.K];rcases q with(h|⟨o,h⟩)|h
  .show .inl (.inl (x.imm _ _ h rfl (λ_ _ z=>by cases z)))
  .show .inl (.inr (o,x.imm _ _ h rfl (λ_ _ z=>by cases z)))
  .show .inr h
 | .cls a,v,h=>h
 | .exn e C u j,v,h=>by unfold RD at *;let(f,q,r,l,k):=h;show(f,x.imm _ _ q rfl (λ_ _ z=>by cases z),r,x.imm _ _ l rfl (λ_ _ z=>by cases z),RD.ext0 x k)
 | .obj p C u E B A,v,h=>by unfold RD at *;let(f,a,b,d,q,t,s,m):=h;show(f,a,b,d,x.imm _ _ q rfl (λ_ _ z=>by cases z),RD.ext0 x t,RD.ext0 x s,RD.ext0 x m)
theorem RDs.ext0{w b:Vw}(x:Ext0 w b):∀{a:LD} {vs:LV},RDs w a vs->RDs b a vs
 | [],vs,h=>h
 | d::a,vs,h=>by unfold RDs at *;let(v,r,e,f,c):=h;show(v,r,e,RD.ext0 x f,RDs.ext0 x c)
end
theorem RKV.ext0{b:Type}{w c:Vw}(x:Ext0 w c):∀{a:List (b×D)} {vs:List (b×V)},RKV w a vs->RKV c a vs
 | [],vs,h=>h
 |#v[k,d]::a,vs,h=>by unfold RKV at *;let(v,r,e,g,f):=h;show(v,r,e,RD.ext0 x g,RKV.ext0 x f)
def Ext.z{w f:Vw}(x:Ext w f):Ext0 w f:=(x.K,x.n,x.μ,λa o h q _=>x.imm a o h q)
def RD.ext{w f:Vw}(x:Ext w f){d:D}(h:RD w d v):RD f d v:=RD.ext0 x.z h
def RDs.ext{w f:Vw}(x:Ext w f){d:LD}(h:RDs w d v):RDs f d v:=RDs.ext0 x.z h
def RKV.ext{a:Type}{w f:Vw}(x:Ext w f){d:List (a×D)}{v:List (a×V)}(h:RKV w d v):RKV f d v:=RKV.ext0 x.z h
def RDs.nil(w:Vw):RDs w [] []:=by ext RDs;rfl
def RDs.cons{w:Vw}{d:D}{v:V}{a:LD}{vs:LV}(h:RD w d v)(r:RDs w a vs):RDs w (d::a) (v::vs):=by ext RDs;show(v,vs,rfl,h,r)
def RDs.length{w:Vw}:∀{a:LD} {vs:LV},RDs w a vs->vs.length=a.length
 | [],vs,h=>by ext h RDs;subst h;rfl
 | d::a,vs,h=>by ext h RDs;let(v,r,rfl,_,b):=h;simp[b.length]
def RDs.get{w:Vw}:∀{a:LD} {vs:LV} {i:Nat} {d:D},RDs w a vs->a[i]?=some d->∃v,vs[i]?=some v/\RD w d v
 | [],vs,i,d,h,e=>by simp at e
 | d::a,vs,i,f,h,e=>by
  ext h RDs;let(v,r,rfl,c,b):=h;cases i with
  | zero=>simp at e;subst e;show(v,rfl,c)
  | succ i=>simpa using RDs.get b ↥e
def RDs.append{w:Vw}:∀{a es:LD} {vs us:LV},RDs w a vs->RDs w es us->RDs w (a++es) (vs++us)
 | [],es,vs,us,h,g=>by ext h RDs;subst h;show g
 | d::a,es,vs,us,h,g=>by ext h RDs;let(v,r,rfl,c,b):=h;show RDs.cons c (RDs.append b g)
def RDs.take{w:Vw}:∀{a:LD} {vs:LV} (n:Nat),RDs w a vs->RDs w (a.take n) (vs.take n)
 | _,_,0,_=>by simp[RDs.nil]
 | [],vs,n+1,h=>by ext h RDs;subst h;simp[RDs.nil]
 | d::a,vs,n+1,h=>by ext h RDs;let(v,r,rfl,c,b):=h;show RDs.cons c (RDs.take n b)
def RDs.drop{w:Vw}:∀{a:LD} {vs:LV} (n:Nat),RDs w a vs->RDs w (a.drop n) (vs.drop n)
 | _,_,0,h=>by simpa using h
 | [],vs,n+1,h=>by ext h RDs;subst h;simp[RDs.nil]
 | d::a,vs,n+1,h=>by ext h RDs;let(v,r,rfl,c,b):=h;simpa using RDs.drop n b
def RDs.set{w:Vw}{d:D}(q:RD w d v):∀{a:LD} {vs:LV} (n:Nat),RDs w a vs->RDs w (a.set n d) (vs.set n v)
 | [],vs,n,h=>by ext h RDs;subst h;simp[RDs.nil]
 | d::a,vs,0,h=>by ext h RDs;let(v,r,rfl,c,b):=h;show RDs.cons q b
 | d::a,vs,n+1,h=>by ext h RDs;let(v,r,rfl,c,b):=h;show RDs.cons c (RDs.set q n b)
def RDs.reverse{w:Vw}:∀{a:LD} {vs:LV},RDs w a vs->RDs w a.reverse vs.reverse
 | [],vs,h=>by ext h RDs;subst h;simp[RDs.nil]
 | d::a,vs,h=>by ext h RDs;let(v,r,rfl,c,b):=h;erw[Km];show(RDs.reverse b).append (RDs.cons c (RDs.nil w))
def Vw.push(w:Vw)(a:Uc)(o:HO):Vw:=(w.K,upd w.H a o,λi=>if i=w.n then a else w.μ i,w.n+1)
def Vw.alloc(w:Vw)(a:Uc)(o:HO):Vw:={w with H:=upd w.H a o}
def Vp{w:Vw}{a:Uc}(h:w.H a=none):Ext w (w.alloc a o):=
 (rfl,na _,λ_ _=>rfl,λb u q _=>by
  change upd w.H a o b=some u;rw[Z7 (by rintro rfl;rw[h] at q;cases q)];show q)
def Wx{w:Vw}{a:Uc}(h:w.H a=none):Ext w (w.push a o):=
 (rfl,md _,λi c=>by show(if i=w.n then a else w.μ i)=_;rw[nb 'o'],λb u q _=>by
  change upd w.H a o b=some u;rw[Z7 (by rintro rfl;rw[h] at q;cases q)];show q)
def SqF.stay{w b:Vw}{a:Uc}(x:Ext w b)(h:SqF w.K w.H a vs):SqF b.K b.H a vs:=by
 rcases h with⟨o,h⟩|h
 .show .inl (o,x.imm _ _ h rfl)
 .rw[x.K];show .inr h
def SqF.sq{K:Aa}{a:Uc}(h:SqF K H a vs):SqL K H a vs:=by
 rcases h with⟨o,h⟩|(h|⟨o,h⟩)|h
 .show .inl (.inr (o,h))
 .cases h
 .cases h
 .show .inr h
def Ja.some{w:Vw}{a:Uc}(e:c.mut=true)(h:Ja w c a):∃o,w.H a=some o:=by
 cases c with
 | lst b=>let(d,q,_):=h;show(_,q)
 | frz b=>cases e
 | dct b=>let(d,q,_):=h;show(_,q)
 | fdc b=>let(o,d,q,_):=h;show(_,q)
 | dcp b=>let(d,q,_):=h;show(_,q)
def Ja.stay{w e:Vw}{a:Uc}(x:Ext w e)(h:Ja w c a)(k:c.mut=true->e.H a=w.H a):Ja e c a:=by
 cases c with
 | lst d=>let(b,q,r):=h;show(b,(k rfl).trans q,r.ext x)
 | frz d=>let(b,q,r):=h;show(b,q.stay x,r.ext x)
 | dct d=>let(b,q,r):=h;show(b,(k rfl).trans q,r.ext x)
 | fdc d=>let(o,b,q,r):=h;show(o,b,(k rfl).trans q,r.ext x)
 | dcp d=>let(b,q,r):=h;show(b,(k rfl).trans q,r.ext x)
def RS.alloc{w:Vw}{a:Uc}(R:RS w M)(h:w.H a=none):RS (w.alloc a o) M:=
 (R.len,R.inj,λi c e=>by
  have q:=R.cell i c e;show q.stay (Vp h) λd=>?_;let(u,b):=q.some d;show Z7 (λz=>by have z:w.μ i=a:=z;rw[z,h] at b;cases b))
def RS.push{w:Vw}{a:Uc}(R:RS w M)(h:w.H a=none)(s:Ja (w.push a o) c a):RS (w.push a o) (M++[c]):=by
 have f:∀(i:Nat) (b:Cell),(M++[c])[i]?=some b->(i=w.n/\b=c)\/(i<w.n/\M[i]?=some b):=λi b e=>by
  by_cases A:i<M.length
  .rw[Dx A] at e;show .inr (by rw[R.len];show A,e)
  .rw[Kk 'o'] at e;have C:i - M.length=0:=by have:=(Ai.mp e).1;simp at this;lia
   rw[C] at e;simp at e;show .inl (by rw[R.len];lia,e.symm)
 have r:∀(i:Nat) (b:Cell),M[i]?=some b->b.mut=true->w.μ i≠a:=λi b e t z=>by let(u,y):=(R.cell i b e).some t;rw[z,h] at y;cases y
 show(by change w.n+1=_;rw[R.len];simp,λi j b m D B x v e=>?_,λi p e=>?_)
 .change (if i=w.n then a else w.μ i)=(if j=w.n then a else w.μ j) at e;rcases f i b D with⟨k,_⟩|⟨k,d⟩
  .rcases f j m B with⟨l,_⟩|⟨l,g⟩
   .lia
   .rw[nc k,nb 'o'] at e;show absurd e.symm (r j m g v)
  .rcases f j m B with⟨l,_⟩|⟨l,g⟩
   .rw[nb 'o',nc l] at e;show absurd e (r i b d x)
   .rw[nb 'o',nb 'o'] at e;show R.inj i j b m d g x v e
 .change Ja _ p (if i=w.n then a else w.μ i);rcases f i p e with⟨k,rfl⟩|⟨k,d⟩
  .rw[nc k];show s
  .rw[nb 'o'];have q:=R.cell i p d;show q.stay (Wx h) λt=>Z7 (r i p d t)
def Xw{w:Vw}{a:Uc}(h:w.H a=some u)(c:Imm u=false):Ext w (w.alloc a o):=
 (rfl,na _,λ_ _=>rfl,λb v q z=>by
  change upd w.H a o b=some v;rw[Z7 (by rintro rfl;rw[h] at q;cases q;rw[c] at z;cases z)];show q)
def RS.write{w:Vw}{i:Nat}{l c:Cell}(R:RS w M)(h0:M[i]?=some l)(A:l.mut=true)(L:c.mut=true)(h:w.H (w.μ i)=some u)(E:Imm u=false)(m:Ja (w.alloc (w.μ i) o) c (w.μ i)):RS (w.alloc (w.μ i) o) (M.set i c):=by
 have F:i<M.length:=(Ai.mp h0).1;have f:∀(j:Nat) (k:Cell),(M.set i c)[j]?=some k->k.mut=true->∃g,M[j]?=some g/\g.mut=true:=λj k e p=>by
  by_cases d:j=i
  .subst d;show(l,h0,A)
  .rw[Dq (Av d)] at e;show(k,e,p)
 show(by change w.n=_;rw[R.len];simp,λa b K J I G D C e=>?_,λj B e=>?_)
 .let(y,v,s):=f a K I D;let(x,t,r):=f b J G C;show R.inj a b y x v t s r e
 .by_cases d:j=i
  .subst d;rw[Ex F] at e;cases e;show m
  .rw[Dq (Av d)] at e;have q:=R.cell j B e;show q.stay (Xw h E) λp=>Z7 (λz=>d (R.inj j i B l e h0 p A z))
inductive Op where
 | add | sub | mul | fdiv | mod | pow
 deriving DecidableEq
inductive Cm where
 | lt | gt | eq | ne | is | isin | notin
 deriving DecidableEq
inductive Bf where
 | len | isinst | tuple1 | dict1
 deriving DecidableEq
inductive Mt where
 | append | pop0 | extend | popi
 deriving DecidableEq
inductive Ty where
 | int | str | bool | list | tuple | dict | valueError
 deriving DecidableEq
def Yo:Ty->String
 | .int=>"int" | .str=>"str" | .bool=>"bool" | .list=>"list" | .tuple=>"tuple" | .dict=>"dict" | .valueError=>"ValueError"
mutual
inductive E where
 | var (i:Nat) | int (i:Int) | bl (b:Bool) | non | str (x:Str) | ty (x:Ty) | glb (k:Nat)
 | bin (op:Op) (a b:E) | neg (a:E) | not (a:E) | cmp (op:Cm) (a b:E) | bop (isAnd:Bool) (es:Es) | ife (c a b:E)
 | lst (es:Es) | tup (es:Es) | dict0 | dictT | ix (a b:E) | sl (a:E) (lo hi:Eo)
 | call (f:Nat) (es:Es) | bf (b:Bf) (es:Es) | mt (m:Mt) (o:E) (es:Es) | fld (o:E) (f:Str)
 | mkO (g:Nat) (a:E) | meO (g m:Nat) (o:E) (es:Es)
 | comp (N':LS) (js:List (Option Nat)) (tg:LQ) (it:It) (cd:Eo) (e:E)
 | lrev (a:E) | anyf (a:E) | slW (a:E) (lo hi:Eo)
inductive Es where
 | nil | cons (e:E) (r:Es)
inductive Eo where
 | no | yes (e:E)
inductive It where
 | seq (e:E) | rng1 (a:E) | enm (e:E)
end
mutual
inductive S where
 | never | ret (e:E) | expr (e:E)
 | set (tg:LQ) (e:E)
 | put (o i v:E)
 | ite (c:E) (a b:Ss) | for_ (tg:LQ) (it:It) (b:Ss) | while_ (c:E) (b:Ss)
inductive Ss where
 | nil | cons (s:S) (r:Ss)
end
noncomputable def Zg(M:Z3)(n:Nat):Option (LD):=match M[n]? with
 | some (.lst a)=>some a
 | some (.frz a)=>some a
 | _=>none
def Z2(M:Z3)(n:Nat):Option (LD):=match M[n]? with
 | some (.lst a)=>some a
 | _=>none
def Yk(M:Z3)(n:Nat):Option (KQ9):=match M[n]? with
 | some (.dct a)=>some a
 | _=>none
def Zj3(M:Z3)(n:Nat):Option (KQ9):=match M[n]? with
 | some (.dct a)=>some a
 | some (.fdc a)=>some a
 | _=>none
def B7(M:Z3)(n:Nat):Option (List (List Key×D)):=match M[n]? with
 | some (.dcp a)=>some a
 | _=>none
def valD{a:Type}[DecidableEq a](kvs:List (a×D))(k:a):Option D:=(kvs.find? λb=>decide (b.1=k)).map (·.2)
def putD{b:Type}[DecidableEq b](kvs:List (b×D))(k:b)(v:D):List (b×D):=
 if (kvs.any λa=>decide (a.1=k))=true then kvs.map (λa=>if a.1=k then#v[a.1,v] else a) else kvs++[#v[k,v]]
def keyD:D->Option Key
 | .int i=>some (.inl i)
 | .str x=>some (.inr x)
 | _=>none
def kD:Key->D
 | .inl i=> .int i
 | .inr x=> .str x
def Sc(ps:KQ9):LD:=ps.map λp=> .tup [kD p.1,p.2]
def Od(ps:KQ9):KQ9:=ps.foldl (λm p=>putD m p.1 p.2) []
def qdiv(i j:Int):Int:=if 0<j then i / j else i.fdiv j
def qmod(i j:Int):Int:=if 0<j then i % j else i.fmod j
def Yh2(i j:Int):i.fdiv j=qdiv i j:=by
 ext qdiv;split
 .show Int.fdiv_eq_ediv_of_nonneg _ 'o'
 .rfl
def Y46(i j:Int):i.fmod j=qmod i j:=by
 ext qmod;split
 .show Int.fmod_eq_emod_of_nonneg _ 'o'
 .rfl
def Zt9{i j:Int}(h:0<j):qdiv i j=i / j:=nc h
def Zy7{i j:Int}(h:0<j):qmod i j=i % j:=nc h
def Z81(x:D)(F:Int->Prop):Prop:=match x with
 | .int i=>F i
 | _=>False
def Jm(x:D)(F:Nat->Prop):Prop:=match x with
 | .ref n=>F n
 | _=>False
def Yg7(x:D)(F:LD->Prop):Prop:=match x with
 | .tup l=>F l
 | _=>False
def Ba(x y:D)(F:Int->Int->Prop):Prop:=Z81 x λi=>Z81 y λj=>F i j
def at0(l:LD)(P:Prop):Prop:=match l with
 | []=>P
 | _::_=>False
def at1(l:LD)(F:D->Prop):Prop:=match l with
 | []=>False
 | a::r=>at0 r (F a)
def at2(l:LD)(F:D->D->Prop):Prop:=match l with
 | []=>False
 | a::r=>at1 r (F a)
def Vq{x:D}(h:Z81 x F):∃i,x= .int i/\F i:=by
 cases x with
 | int i=>show(i,rfl,h)
 | _=>show Az h
def Xv{x:D}(h:Jm x F):∃n,x= .ref n/\F n:=by
 cases x with
 | ref n=>show(n,rfl,h)
 | _=>show Az h
def E1{x:D}(h:Yg7 x F):∃l,x= .tup l/\F l:=by
 cases x with
 | tup l=>show(l,rfl,h)
 | _=>show Az h
def Wm{x y:D}(h:Ba x y F):∃i j,x= .int i/\y= .int j/\F i j:=by let(i,rfl,b):=Vq h;let(j,rfl,a):=Vq b;show(i,j,rfl,rfl,a)
def Zo4{l:LD}(h:at0 l P):l=[]/\P:=by
 cases l with
 | nil=>show(rfl,h)
 | cons _ _=>show Az h
def Tx{l:LD}(h:at1 l F):∃a,l=[a]/\F a:=by
 cases l with
 | nil=>show Az h
 | cons a r=>let(rfl,b):=Zo4 h;show(a,rfl,b)
def Yh6{l:LD}(h:at2 l F):∃a b,l=[a,b]/\F a b:=by
 cases l with
 | nil=>show Az h
 | cons a r=>let(b,rfl,c):=Tx h;show(a,b,rfl,c)
def addD(x y:D)(M:Z3)(Q:DK):Prop:=match x with
 | .int i=>Z81 y λj=>Q (.int (i+j)) M
 | .str a=>match y with
  | .str b=>a.length+b.length<=sizeLine/\Q (.str (a++b)) M
  | _=>False
 | .tup a=>Yg7 y λb=>a≠[]/\a.length+b.length<=sizeLine/\Q (.tup (a++b)) M
 | .ref a=>Jm y λb=>∃d c,Z2 M a=some d/\Z2 M b=some c/\d.length+c.length<=sizeLine/\Q (.ref M.length) (M++[.lst (d++c)])
 | _=>False
def mulD(x y:D)(M:Z3)(Q:DK):Prop:=match x with
 | .int i=>Z81 y λj=>IntMulOk i j/\Q (.int (i * j)) M
 | .ref a=>Z81 y λk=>∃b,Z2 M a=some b/\0<=k/\k<2 ^ 62/\b.length * k.toNat<=sizeLine/\Q (.ref M.length) (M++[.lst (Ds k.toNat b).flatten])
 | _=>False
def opD(op:Op)(x y:D)(M:Z3)(Q:DK):Prop:=match op with
 | .add=>addD x y M Q
 | .mul=>mulD x y M Q
 | .sub=>Ba x y λi j=>Q (.int (i - j)) M
 | .fdiv=>Ba x y λi j=>Z54 i j/\Q (.int (qdiv i j)) M
 | .mod=>Ba x y λi j=>j≠0/\Q (.int (qmod i j)) M
 | .pow=>Ba x y λi j=>CPow i j/\Q (.int (i ^ j.toNat)) M
mutual
def PD(M:Z3):PyData->D->Prop
 | .none,d=>d= .non
 | .bool b,d=>d= .bl b
 | .int i,d=>d= .int i
 | .str x,d=>d= .str x
 | .list c,d=>∃n a,d= .ref n/\Zg M n=some a/\PDs M c a
 | .tuple c,d=>∃a,d= .tup a/\PDs M c a
 | .dict _,_=>False
def PDs(M:Z3):List PyData->LD->Prop
 | [],a=>a=[]
 | x::b,a=>∃d r,a=d::r/\PD M x d/\PDs M b r
end
noncomputable def Yd:D->Bool
 | .non | .bl _ | .int _ | .str _=>true
 | _=>false
def eqF:D->D->Bool
 | .non,.non=>true
 | .bl a,.bl b=>a==b
 | .bl a,.int b=>(if a then 1 else 0)==b
 | .int a,.bl b=>a==(if b then 1 else 0)
 | .int a,.int b=>a==b
 | .str a,.str b=>a==b
 | _,_=>false
def eqFs(xs ys:LD):Bool:=(Dn (min xs.length ys.length)).all (λj=>eqF (xs.getD j .non) (ys.getD j .non))&&xs.length==ys.length
def gt(z:Bool×LD):D:=if z.1 then .gtup z.2 else .tup z.2
def inD(x:D)(xs:LD):Bool:=xs.any λy=>eqF y x
def eqS(x y:D):Option Bool:=match x with
 | .int i=>match y with
  | .int j=>some (decide (i=j))
  | .str _=>some false
  | .non=>some false
  | _=>none
 | .str i=>match y with
  | .str j=>some (decide (i=j))
  | .int _=>some false
  | .non=>some false
  | .bl _=>some false
  | _=>none
 | .bl i=>match y with
  | .bl j=>some (decide (i=j))
  | .non=>some false
  | .str _=>some false
  | _=>none
 | .non=>match y with
  | .non=>some true
  | .int _=>some false
  | .bl _=>some false
  | .str _=>some false
  | _=>none
 | _=>none
def eqD(M:Z3)(x y:D)(Q:Bool->Prop):Prop:=match eqS x y with
 | some b=>Q b
 | none=>(∃f e,PD M f x/\PD M e y/\f.canLay0=true/\e.canLay0=true/\min f.depth e.depth<=60/\Q (Ij f e))\/
   False\/(∃m n c,x= .ref m/\y= .ref n/\Zg M m=some c/\Zg M n=some []/\Q c.isEmpty)\/(∃c d,(x= .tup c\/x= .gtup c)/\(y= .tup d\/y= .gtup d)/\c.all Yd=true/\d.all Yd=true/\Q (eqFs c d))
def inQ(M:Z3):D->D->(Bool->Prop)->Prop
 | .str a,.str b,Q=>Q (!(Lb b a 0 b.length 1).isEmpty)
 | x,.ref n,Q=>(∃c,Zg M n=some c/\Yd x=true/\c.all Yd=true/\Q (inD x c))\/(∃d k,Yk M n=some d/\keyD x=some k/\Q (valD d k).isSome)\/(∃(e:LD) (c:List (Bool×LD)),x= .tup e/\Zg M n=some (c.map gt)/\e.all Yd=true/\(c.all λz=>z.2.all Yd)=true/\Q (c.any λz=>eqFs z.2 e))\/∃(d:List (List Key×D)) (f:List Key),x= .tup (f.map kD)/\B7 M n=some d/\Q (valD d f).isSome
 | x,.tup c,Q=>Yd x=true/\c.all Yd=true/\Q (inD x c)
 | x,.gtup c,Q=>Yd x=true/\c.all Yd=true/\Q (inD x c)
 | _,_,_=>False
def nonD(x y:D)(Q:Bool->Prop):Prop:=match y with
 | .non=>match x with
  | .non=>Q true
  | .bl _=>Q false
  | .int _=>Q false
  | .str _=>Q false
  | .tup _=>Q false
  | .ref _=>Q false
  | .exn _ _ _ _=>Q false
  | .obj _ _ _ _ _ _=>Q false
  | _=>False
 | _=>False
def cmD(M:Z3)(op:Cm)(x y:D)(Q:Bool->Prop):Prop:=match op with
 | .lt=>Ba x y λi j=>Q (decide (i<j))
 | .gt=>Ba x y λi j=>Q (decide (j<i))
 | .eq=>eqD M x y Q
 | .ne=>eqD M x y λb=>Q (!b)
 | .is=>nonD x y Q
 | .isin=>inQ M x y Q
 | .notin=>inQ M x y λb=>Q (!b)
def truD(M:Z3):D->(Bool->Prop)->Prop
 | .non,Q=>Q false
 | .bl b,Q=>Q b
 | .int i,Q=>Q (i !=0)
 | .str x,Q=>x.length<=sizeLine/\Q ((x.length:Int) !=0)
 | .tup a,Q=>Q (!a.isEmpty)
 | .ref n,Q=>(∃a,Zg M n=some a/\Q (!a.isEmpty))\/(∃a,Yk M n=some a/\Q (!a.isEmpty))
 | _,_=>False
def ixD(M:Z3):D->D->(D->Prop)->Prop
 | .ref n,k,Q=>(∃b i d,k= .int i/\Zg M n=some b/\atI b i=some d/\Q d)\/(∃a y d,Zj3 M n=some a/\keyD k=some y/\valD a y=some d/\Q d)\/(∃a e d,B7 M n=some a/\k= .tup (e.map kD)/\valD a e=some d/\Q d)
 | .tup b,.int i,Q=>∃d,atI b i=some d/\Q d
 | .gtup b,.int i,Q=>∃d,atI b i=some d/\Q d
 | .str z,.int i,Q=>z.length<=sizeLine/\∃c,atI z.cps.toList i=some c/\Q (.str ⟨#[c]⟩)
 | _,_,_=>False
def cutD{a:Type}(xs:List a)(lo hi:Option Int):List a:=(xs.drop (HT.sIx xs.length 0 lo)).take (HT.sIx xs.length xs.length hi - HT.sIx xs.length 0 lo)
def slD:D->Option Int->Option Int->Z3->DK->Prop
 | .str z,b,c,M,Q=>z.length<=sizeLine/\Q (.str (Txt.slice z b c)) M
 | .ref n,b,c,M,Q=>∃a,Zg M n=some a/\Q (.ref M.length) (M++[.lst (cutD a b c)])
 | .tup a,b,c,M,Q=>¬(HT.sIx a.length 0 b=0/\HT.sIx a.length a.length c=a.length)/\Q (.tup (cutD a b c)) M
 | _,_,_,_,_=>False
def tyD(M:Z3):D->Option String
 | .non=>some "NoneType"
 | .bl _=>some "bool"
 | .int _=>some "int"
 | .str _=>some "str"
 | .tup _=>some "tuple"
 | .ref n=>match M[n]? with
  | some (.lst _)=>some "list"
  | some (.frz _)=>none
  | some (.dct _)=>some "dict"
  | some (.fdc _)=>none
  | some (.dcp _)=>none
  | none=>none
 | _=>none
def isD(K:Aa)(M:Z3):D->D->(Bool->Prop)->Prop
 | .exn _ C _ _,.cls c,Q=>∃b,ExcIs K C/\Ka K (.ref C) (.ref c)=some b/\Q b
 | .exn _ C _ _,.ty c,Q=>∃b,ExcIs K C/\Ka K (.ref C) (.type c)=some b/\Q b
 | .exn _ C _ _,.tup e,Q=>∃(a:List Uc) (b:Bool),e=a.map D.cls/\ExcIs K C/\PySem.W.kitAny K (.ref C) (a.map Ay)=some b/\Q b
 | d,.ty c,Q=>∃t b,tyD M d=some t/\Ka K (.type t) (.type c)=some b/\Q b
 | _,_,_=>False
def lenD(x:D)(M:Z3)(Q:DK):Prop:=match x with
 | .ref n=>(∃a,Zg M n=some a/\Q (.int a.length) M)\/(∃a,Yk M n=some a/\Q (.int a.length) M)
 | .tup a=>Q (.int a.length) M
 | .str x=>x.length<=sizeLine/\Q (.int x.length) M
 | _=>False
def bfD(K:Aa)(b:Bf)(l:LD)(M:Z3)(Q:DK):Prop:=match b with
 | .len=>at1 l λx=>lenD x M Q
 | .isinst=>at2 l λd c=>isD K M d c λb=>Q (.bl b) M
 | .tuple1=>at1 l λx=>Jm x λn=>∃a,Zg M n=some a/\Q (.tup a) M
 | .dict1=>at1 l λx=>Jm x λn=>(∃a,Yk M n=some a/\Q (.ref M.length) (M++[.dct a]))\/(∃e:KQ9,Zg M n=some (Sc e)/\e.length<sizeLine/\Q (.ref M.length) (M++[.dct (Od e)]))
def setD(b:Bool)(n:Nat)(M:Z3)(Q:DK):Prop:=match b with
 | true=>∃c:List Int,Zg M n=some (c.map .int)/\c.length<64/\∀d:List Int,d.Pairwise (· < ·)->(∀i,i∈d↔i∈c)->Q (.ref M.length) (M++[.lst (d.map .int)])
 | false=>∃e:List Key,Zg M n=some (e.map kD)/\e.length+1<scanBound/\∀a:List Key,a.Nodup->(∀k,k∈a↔k∈e)->Q (.int a.length) M
def onRT(d:D)(P:LD->Prop)(Q:Nat->Prop):Prop:=match d with
 | .ref n=>Q n
 | .tup a=>P a
 | _=>False
def Zy3{d:D}(h:onRT d P Q):(∃n,d= .ref n/\Q n)\/∃xs,d= .tup xs/\P xs:=by cases d<;>first | show .inl (_,rfl,h) | show .inr (_,rfl,h) | show h.elim
def mtD(m:Mt)(o:D)(l:LD)(M:Z3)(Q:DK):Prop:=Jm o λn=>match m with
 | .popi=>at1 l λk=>∃a d,∃j:Nat,k= .int j/\Z2 M n=some a/\a[j]?=some d/\Q d (M.set n (.lst (a.eraseIdx j)))
 | .append=>at1 l λd=>∃a,Z2 M n=some a/\a.length<sizeLine/\Q .non (M.set n (.lst (a++[d])))
 | .pop0=>at0 l (∃a d,Z2 M n=some a/\a[a.length - 1]?=some d/\Q d (M.set n (.lst a.dropLast)))
 | .extend=>at1 l λt=>onRT t (λb=>∃a,Z2 M n=some a/\a.length+b.length<=sizeLine/\Q .non (M.set n (.lst (a++b)))) λm=>∃a b,Z2 M n=some a/\Z2 M m=some b/\a.length+b.length<=sizeLine/\Q .non (M.set n (.lst (a++b)))
def mtK(m:Mt)(o:D)(M:Z3):Prop:=Jm o λn=>match m with
 | _=>(Zg M n).isSome=true
def OC(K:Aa)(C:Uc)(f:Str):Prop:=Cls K C/\W6 K C f
def fldD(K:Aa):D->Str->(D->Prop)->Prop
 | .obj _ C _ x y z,f,Q=>OC K C f/\if f="line" then Q x else if f="lists" then Q y else if f="goings" then Q z else False
 | _,_,_=>False
def oN:Str:="Opened"
def mOf(x:Str):Option Str:=if x="Opened.tell" then some "tell" else if x="Opened.begin_no" then some "begin_no" else none
def tgD:LQ->D->DEnv->(DEnv->Prop)->Prop
 | [i],d,a,Q=>Q (a.set i (some d))
 | b,.tup c,a,Q=>c.length=b.length/\Q ((b.zip c).foldl (λa p=>a.set p.1 (some p.2)) a)
 | _,_,_,_=>False
inductive Own where
 | no | lst (n:Nat) | enm (n:Nat) | dct (n:Nat) | two (n m:Nat)
def Yy1(kvs:KQ9):LD:=kvs.map λp=>kD p.1
def F7(xs:LD):LD:=xs.mapIdx λi d=> .tup [.int i,d]
def zipT(ys a:LD):LD:=(ys.zip a).map λp=>D.tup [p.1,p.2]
def itD(M:Z3):D->(Own->LD->Prop)->Prop
 | .ref n,R=>∃a,Zg M n=some a/\R (.lst n) a
 | .tup a,R=>R .no a
 | .gtup a,R=>R .no a
 | _,_=>False
def Ri(lo:Int)(n:Nat):LD:=(Dn n).map fun(k:Nat)=>D.int (lo+(k:Int))
def J3(own:Own)(xs:LD)(M:Z3):Prop:=match own with
 | .lst n=>Zg M n=some xs
 | .enm n=>∃a,Zg M n=some a/\xs=F7 a
 | .dct n=>∃b,M[n]?=some (.fdc b)/\xs=Yy1 b
 | .two n m=>∃a c,Zg M n=some a/\Zg M m=some c/\xs=zipT a c
 | .no=>True
def forD(own:Own)(xs:LD)(e:LQ)(body:DS):LD->DEnds->DEnv->Z3->Prop
 | [],R,c,M=>J3 own xs M/\R.nx c M
 | d::r,R,c,M=>J3 own xs M/\tgD e d c λb=>body {nx:=λa f=>forD own xs e body r R a f,rt:=R.rt,bk:=R.nx,ct:=λa f=>forD own xs e body r R a f} b M
def Gx(own:Own)(xs:LD)(e:LQ)(cd:DT)(f:DE)(z:Nat):LD->DEnv->Z3->(Z3->Prop)->Prop
 | [],_,M,Q=>J3 own xs M/\Q M
 | d::r,i,M,Q=>J3 own xs M/\tgD e d i λa=>cd a M λb h=>if b=true then
   f a h λy g=>∃c,Z2 g z=some c/\c.length<sizeLine/\Gx own xs e cd f z r a (g.set z (.lst (c++[y]))) Q
   else Gx own xs e cd f z r a h Q
def capD(b:List (Option Nat))(a:DEnv):DEnv:=b.map λo=>o.bind λj=>(a[j]?).join
abbrev noX:DX:=λ_ _ _=>False
structure Cfg where
 K:Aa
 Γ:List DSp
 G:LD
mutual
def te(c:Cfg)(X:DX):E->DE
 | .var i,j,M,Q=>match j[i]? with
  | some (some d)=>Q d M
  | _=>False
 | .int i,_,M,Q=>Q (.int i) M
 | .bl b,_,M,Q=>Q (.bl b) M
 | .non,_,M,Q=>Q .non M
 | .str x,_,M,Q=>Q (.str x) M
 | .ty n,_,M,Q=>Q (.ty (Yo n)) M
 | .glb k,_,M,Q=>match c.G[k]? with
  | some d=>Q d M
  | none=>False
 | .bin B a b,j,M,Q=>te c X a j M λx q=>te c X b j q λy s=>opD B x y s Q
 | .neg a,j,M,Q=>te c X a j M λx q=>match x with
  | .int i=>Q (.int (-i)) q
  | _=>False
 | .not a,j,M,Q=>te c X a j M λx q=>truD q x λb=>Q (.bl (!b)) q
 | .cmp B a b,j,M,Q=>te c X a j M λx q=>te c X b j q λy s=>cmD s B x y λr=>Q (.bl r) s
 | .bop k u,j,M,Q=>tbop c X k u j M Q
 | .ife t a b,j,M,Q=>te c X t j M λx q=>truD q x λr=>if r=true then te c X a j q Q else te c X b j q Q
 | .lst u,j,M,Q=>tes c X u j M λv q=>v.length<=sizeLine/\Q (.ref q.length) (q++[.lst v])
 | .tup u,j,M,Q=>tes c X u j M λv q=>v.length<=sizeLine/\Q (.tup v) q
 | .dict0,_,M,Q=>Q (.ref M.length) (M++[.dct []])
 | .dictT,_,M,Q=>Q (.ref M.length) (M++[.dcp []])
 | .ix a b,j,M,Q=>te c X a j M λx q=>te c X b j q λy s=>ixD s x y λd=>Q d s
 | .sl a D F,j,M,Q=>te c X a j M λx q=>teo c X D j q λl s=>teo c X F j s λh H=>slD x l h H Q
 | .call f u,j,M,Q=>tes c X u j M λv q=>match c.Γ[f]? with
  | some z=>z v q Q X
  | none=>False
 | .bf b u,j,M,Q=>tes c X u j M λv q=>bfD c.K b v q Q
 | .slW a D F,j,M,Q=>te c X a j M λx q=>teo c X D j q λl s=>teo c X F j s λh H=>Yg7 x λw=>Q (.tup (cutD w l h)) H
 | .lrev a,j,M,Q=>te c X a j M λx q=>Jm x λn=>∃w,Zg q n=some w/\Q (.ref q.length) (q++[.lst w.reverse])
 | .anyf a,j,M,Q=>te c X a j M λx q=>Jm x λn=>∃I:List Bool,Zg q n=some (I.map .bl)/\Q (.bl (I.any id)) q
 | .mt m o u,j,M,Q=>te c X o j M λx q=>mtK m x q/\tes c X u j q λv s=>mtD m x v s Q
 | .mkO g a,j,M,Q=>∃C,c.G[g]?=some (.cls C)/\OC c.K C "line"/\OC c.K C "lists"/\OC c.K C "goings"/\te c X a j M λx q=>∀p O,Q (.obj p C O x (.ref (q.length+1)) (.ref (q.length+2))) (q++[.lst []]++[.lst [.ref q.length]]++[.lst [.bl true]])
 | .meO g m o u,j,M,Q=>te c X o j M λx q=>match x with
  | .obj _ C _ _ _ _=>c.G[g]?=some (.cls C)/\tes c X u j q λv s=>match c.Γ[m]? with
   | some z=>z (x::v) s Q X
   | none=>False
  | _=>False
 | .fld o f,j,M,Q=>te c X o j M λx q=>fldD c.K x f λd=>Q d q
 | .comp _ L J N P e,j,M,Q=>tit c X N j M λA w q=>Gx A w J (tcd c noX P) (te c noX e) q.length w (capD L j) (q++[.lst []]) λs=>Q (.ref q.length) s
def tbop(c:Cfg)(X:DX)(k:Bool):Es->DE
 | .nil,_,_,_=>False
 | .cons e .nil,a,M,Q=>te c X e a M Q
 | .cons e (.cons f r),a,M,Q=>te c X e a M λx d=>truD d x λb=>if b=k then tbop c X k (.cons f r) a d Q else Q x d
def tes(c:Cfg)(X:DX):Es->DA
 | .nil,_,M,Q=>Q [] M
 | .cons e r,a,M,Q=>te c X e a M λd g=>tes c X r a g λb f=>Q (d::b) f
def teo(c:Cfg)(X:DX):Eo->DEnv->Z3->(Option Int->Z3->Prop)->Prop
 | .no,_,M,Q=>Q none M
 | .yes e,a,M,Q=>te c X e a M λd b=>match d with
  | .int i=>Q (some i) b
  | _=>False
def tcd(c:Cfg)(X:DX):Eo->DT
 | .no,_,M,Q=>Q true M
 | .yes e,d,M,Q=>te c X e d M λx a=>truD a x λb=>Q b a
def tit(c:Cfg)(X:DX):It->DEnv->Z3->(Own->LD->Z3->Prop)->Prop
 | .seq e,f,M,Q=>te c X e f M λd b=>itD b d λh g=>Q h g b
 | .rng1 a,f,M,Q=>te c X a f M λd b=>match d with
  | .int j=> -(2 ^ 62)<=j/\j<2 ^ 62/\Q .no (Ri 0 j.toNat) b
  | _=>False
 | .enm e,f,M,Q=>te c X e f M λd b=>match d with
  | .ref n=>∃g,Zg b n=some g/\Q (.enm n) (F7 g) b
  | _=>False
end
theorem iseq09{c X e f M Q}:tit c X (.seq e) f M Q=(te c X e f M λd b=>itD b d λh g=>Q h g b):=rfl
def irng119{c X a f M Q}:tit c X (.rng1 a) f M Q=(te c X a f M λd b=>match d with|.int j=> -(2 ^ 62)<=j/\j<2 ^ 62/\Q .no (Ri 0 j.toNat) b|_=>False):=rfl
def ienm29{c X e f M Q}:tit c X (.enm e) f M Q=(te c X e f M λd b=>match d with|.ref n=>∃g,Zg b n=some g/\Q (.enm n) (F7 g) b|_=>False):=rfl
def dno09{c X u1 M Q}:tcd c X .no u1 M Q=(Q true M):=rfl
def dyes19{c X e d M Q}:tcd c X (.yes e) d M Q=(te c X e d M λx a=>truD a x λb=>Q b a):=rfl
def ono09{c X u1 M Q}:teo c X .no u1 M Q=(Q none M):=rfl
def oyes19{c X e a M Q}:teo c X (.yes e) a M Q=(te c X e a M λd b=>match d with|.int i=>Q (some i) b|_=>False):=rfl
def lnil09{c X u1 M Q}:tes c X .nil u1 M Q=(Q [] M):=rfl
def lcons19{c X e r a M Q}:tes c X (.cons e r) a M Q=(te c X e a M λd g=>tes c X r a g λb f=>Q (d::b) f):=rfl
def bnil09{c X k u1 u2 u3}:tbop c X k .nil u1 u2 u3=(False):=rfl
def bcons19{c X k e a M Q}:tbop c X k (.cons e .nil) a M Q=(te c X e a M Q):=rfl
def bcons29{c X k e f r a M Q}:tbop c X k (.cons e (.cons f r)) a M Q=(te c X e a M λx d=>truD d x λb=>if b=k then tbop c X k (.cons f r) a d Q else Q x d):=rfl
def evar9{c X i j M Q}:te c X (.var i) j M Q=(match j[i]? with|some (some d)=>Q d M|_=>False):=rfl
def eint9{c X i u1 M Q}:te c X (.int i) u1 M Q=(Q (.int i) M):=rfl
def ebl9{c X b u1 M Q}:te c X (.bl b) u1 M Q=(Q (.bl b) M):=rfl
def enon9{c X u1 M Q}:te c X .non u1 M Q=(Q .non M):=rfl
def estr9{c X x u1 M Q}:te c X (.str x) u1 M Q=(Q (.str x) M):=rfl
def ety9{c X n u1 M Q}:te c X (.ty n) u1 M Q=(Q (.ty (Yo n)) M):=rfl
def eglb9{c X k u1 M Q}:te c X (.glb k) u1 M Q=(match c.G[k]? with|some d=>Q d M|none=>False):=rfl
def ebin9{c X B a b j M Q}:te c X (.bin B a b) j M Q=(te c X a j M λx q=>te c X b j q λy s=>opD B x y s Q):=rfl
def eneg9{c X a j M Q}:te c X (.neg a) j M Q=(te c X a j M λx q=>match x with|.int i=>Q (.int (-i)) q|_=>False):=rfl
def enot9{c X a j M Q}:te c X (.not a) j M Q=(te c X a j M λx q=>truD q x λb=>Q (.bl (!b)) q):=rfl
def ecmp9{c X B a b j M Q}:te c X (.cmp B a b) j M Q=(te c X a j M λx q=>te c X b j q λy s=>cmD s B x y λr=>Q (.bl r) s):=rfl
def ebop9{c X k u j M Q}:te c X (.bop k u) j M Q=(tbop c X k u j M Q):=rfl
def eife9{c X t a b j M Q}:te c X (.ife t a b) j M Q=(te c X t j M λx q=>truD q x λr=>if r=true then te c X a j q Q else te c X b j q Q):=rfl
def elst9{c X u j M Q}:te c X (.lst u) j M Q=(tes c X u j M λv q=>v.length<=sizeLine/\Q (.ref q.length) (q++[.lst v])):=rfl
def etup9{c X u j M Q}:te c X (.tup u) j M Q=(tes c X u j M λv q=>v.length<=sizeLine/\Q (.tup v) q):=rfl
def edict09{c X u1 M Q}:te c X .dict0 u1 M Q=(Q (.ref M.length) (M++[.dct []])):=rfl
def edictT9{c X u1 M Q}:te c X .dictT u1 M Q=(Q (.ref M.length) (M++[.dcp []])):=rfl
def eix9{c X a b j M Q}:te c X (.ix a b) j M Q=(te c X a j M λx q=>te c X b j q λy s=>ixD s x y λd=>Q d s):=rfl
def esl9{c X a D F j M Q}:te c X (.sl a D F) j M Q=(te c X a j M λx q=>teo c X D j q λl s=>teo c X F j s λh H=>slD x l h H Q):=rfl
def ecall9{c X f u j M Q}:te c X (.call f u) j M Q=(tes c X u j M λv q=>match c.Γ[f]? with|some z=>z v q Q X|none=>False):=rfl
def ebf9{c X b u j M Q}:te c X (.bf b u) j M Q=(tes c X u j M λv q=>bfD c.K b v q Q):=rfl
def eslW9{c X a D F j M Q}:te c X (.slW a D F) j M Q=(te c X a j M λx q=>teo c X D j q λl s=>teo c X F j s λh H=>Yg7 x λw=>Q (.tup (cutD w l h)) H):=rfl
def elrev9{c X a j M Q}:te c X (.lrev a) j M Q=(te c X a j M λx q=>Jm x λn=>∃w,Zg q n=some w/\Q (.ref q.length) (q++[.lst w.reverse])):=rfl
def eanyf9{c X a j M Q}:te c X (.anyf a) j M Q=(te c X a j M λx q=>Jm x λn=>∃I:List Bool,Zg q n=some (I.map .bl)/\Q (.bl (I.any id)) q):=rfl
def emt9{c X m o u j M Q}:te c X (.mt m o u) j M Q=(te c X o j M λx q=>mtK m x q/\tes c X u j q λv s=>mtD m x v s Q):=rfl
def emkO9{c X g a j M Q}:te c X (.mkO g a) j M Q=(∃C,c.G[g]?=some (.cls C)/\OC c.K C "line"/\OC c.K C "lists"/\OC c.K C "goings"/\te c X a j M λx q=>∀p O,Q (.obj p C O x (.ref (q.length+1)) (.ref (q.length+2))) (q++[.lst []]++[.lst [.ref q.length]]++[.lst [.bl true]])):=rfl
def emeO9{c X g m o u j M Q}:te c X (.meO g m o u) j M Q=(te c X o j M λx q=>match x with|.obj _ C _ _ _ _=>c.G[g]?=some (.cls C)/\tes c X u j q λv s=>(match c.Γ[m]? with|some z=>z (x::v) s Q X|none=>False)|_=>False):=rfl
def efld9{c X o f j M Q}:te c X (.fld o f) j M Q=(te c X o j M λx q=>fldD c.K x f λd=>Q d q):=rfl
def ecomp9{c X u1 L J N P e j M Q}:te c X (.comp u1 L J N P e) j M Q=(tit c X N j M λA w q=>Gx A w J (tcd c noX P) (te c noX e) q.length w (capD L j) (q++[.lst []]) λs=>Q (.ref q.length) s):=rfl
def tt(c:Cfg)(X:DX)(e:E):DT:=λd M Q=>te c X e d M λx a=>truD a x λb=>Q b a
mutual
def ts(c:Cfg)(X:DX):S->DS
 | .never,_,_,_=>False
 | .ret e,R,f,M=>te c X e f M R.rt
 | .expr e,R,f,M=>te c X e f M λ_ h=>R.nx f h
 | .set z e,R,f,M=>te c X e f M λd h=>tgD z d f λw=>R.nx w h
 | .put o i v,R,f,M=>te c X v f M λd h=>te c X o f h λx u=>te c X i f u λy q=>match x with
  | .ref n=>(∃p k j,y= .int k/\Z2 q n=some p/\ixN p.length k=some j/\R.nx f (q.set n (.lst (p.set j d))))\/
    (∃g k,Yk q n=some g/\keyD y=some k/\g.length<sizeLine/\R.nx f (q.set n (.dct (putD g k d))))\/
    (∃g B,B7 q n=some g/\y= .tup (B.map kD)/\g.length<sizeLine/\R.nx f (q.set n (.dcp (putD g B d))))
  | _=>False
 | .ite t a b,R,f,M=>tt c X t f M λr h=>if r=true then tss c X a R f h else tss c X b R f h
 | .for_ z C b,R,f,M=>tit c X C f M λA p h=>forD A p z (tss c X b) p R f h
 | .while_ t b,R,f,M=>∃W:Nat->DEnv->Z3->Prop,(∃m,W m f M)/\∀m f M,W m f M->tt c X t f M λr h=>if r=true then
   tss c X b {nx:=λl u=>∃s,s<m/\W s l u,rt:=R.rt,bk:=R.nx,ct:=λl u=>∃s,s<m/\W s l u} f h else R.nx f h
def tss(c:Cfg)(X:DX):Ss->DS
 | .nil,R,b,M=>R.nx b M
 | .cons s r,R,b,M=>ts c X s {R with nx:=λa d=>tss c X r R a d} b M
end
theorem sret9{c X e R f M}:ts c X (.ret e) R f M=(te c X e f M R.rt):=rfl
def sexpr9{c X e R f M}:ts c X (.expr e) R f M=(te c X e f M λ_ h=>R.nx f h):=rfl
def sset9{c X z e R f M}:ts c X (.set z e) R f M=(te c X e f M λd h=>tgD z d f λw=>R.nx w h):=rfl
def sput9{c X o i v R f M}:ts c X (.put o i v) R f M=(te c X v f M λd h=>te c X o f h λx u=>te c X i f u λy q=>match x with
  | .ref n=>(∃p k j,y= .int k/\Z2 q n=some p/\ixN p.length k=some j/\R.nx f (q.set n (.lst (p.set j d))))\/
    (∃g k,Yk q n=some g/\keyD y=some k/\g.length<sizeLine/\R.nx f (q.set n (.dct (putD g k d))))\/
    (∃g B,B7 q n=some g/\y= .tup (B.map kD)/\g.length<sizeLine/\R.nx f (q.set n (.dcp (putD g B d))))
  | _=>False):=rfl
def site9{c X t a b R f M}:ts c X (.ite t a b) R f M=(tt c X t f M λr h=>if r=true then tss c X a R f h else tss c X b R f h):=rfl
def sfor_9{c X z C b R f M}:ts c X (.for_ z C b) R f M=(tit c X C f M λA p h=>forD A p z (tss c X b) p R f h):=rfl
def swhile_9{c X t b R f M}:ts c X (.while_ t b) R f M=(∃W:Nat->DEnv->Z3->Prop,(∃m,W m f M)/\∀m f M,W m f M->tt c X t f M λr h=>if r=true then
   tss c X b {nx:=λl u=>∃s,s<m/\W s l u,rt:=R.rt,bk:=R.nx,ct:=λl u=>∃s,s<m/\W s l u} f h else R.nx f h):=rfl
def REnv(w:Vw)(a:DEnv)(b:L2.St):Prop:=a.length=b.length/\∀(i:Nat) d,a[i]?=some (some d)->∃v,b[i]?=some (some v)/\RD w d v
def REnv.ext{w c:Vw}{a:DEnv}{b:L2.St}(h:REnv w a b)(x:Ext w c):REnv c a b:=
 (h.1,λi d e=>by let(v,q,r):=h.2 i d e;show(v,q,r.ext x))
def REnv.set{w:Vw}{a:DEnv}{d:D}(h:REnv w a c)(i:Nat)(r:RD w d v):REnv w (a.set i (some d)) (c.set i (some v)):=by
 show(by simp[h.1],λj g e=>?_);by_cases b:i=j
 .subst b;by_cases f:i<a.length
  .rw[Ex f] at e;cases e;show(v,by rw[Ex (by rw[<-h.1];show f)],r)
  .rw[Ip (by simp;lia)] at e;cases e
 .rw[Dq b] at e;rw[Dq b];show h.2 j g e
structure StOk(w0 w:Vw)(σD:DEnv)(M:Z3)(σ:L2.St)(H:Hp):Prop where
 heap:w.H=H
 ext:Ext w0 w
 rs:RS w M
 env:REnv w σD σ
def StOk.next{w0 w b:Vw}{a:DEnv}(s:StOk w0 w a M c H)(x:Ext w b)(r:RS b M'):StOk w0 b a M' c b.H:=
 (rfl,s.ext.trans x,r,s.env.ext x)
def Aft(w:Vw)(QD:DK)(Q:VK):Prop:=∀v a d b,Ext w a->RS a b->RD a d v->QD d b->Q v a.H
def tF(w0:Vw)(f:DE):TE:=λc H Q=>∃w a M b,StOk w0 w a M c H/\f a M b/\Aft w b Q
def tFA(w0:Vw)(f:DA):TA:=λh H Q=>∃w a M e,StOk w0 w a M h H/\f a M e/\∀c b d g,Ext w b->RS b g->RDs b d c->e d g->Q c b.H
def tFT(w0:Vw)(f:DT):TT:=λg H Q=>∃w a M d,StOk w0 w a M g H/\f a M d/\∀b c e,Ext w c->RS c e->d b e->Q b c.H
def tFO(w0:Vw)(f:DEnv->Z3->(Option Int->Z3->Prop)->Prop):TO:=λg H Q=>∃w a M d,StOk w0 w a M g H/\f a M d/\∀b c e,Ext w c->RS c e->d b e->Q b c.H
def tFS(w0:Vw)(f:DS):TS:=λR h H=>∃w g M d,StOk w0 w g M h H/\f d g M/\
 (∀b c a e,Ext w c->RS c e->REnv c a b->d.nx a e->R.nx b c.H)/\Aft w d.rt R.rt/\
 (∀b c a e,Ext w c->RS c e->REnv c a b->d.bk a e->R.bk b c.H)/\
 (∀b c a e,Ext w c->RS c e->REnv c a b->d.ct a e->R.ct b c.H)
def xkOf(w:Vw)(Z:DX):XK:=λc g f=>∃C d r b a e,c= .ref C/\g=some d/\b.H=f/\Ext w b/\RS b e/\f d=some (.xd [#v["row",r]])/\RD b a r/\Z C a e
def spF(K:Aa)(sp:DSp):Sp:=λf H Q E=>∃w b M d Z,w.K=K/\w.H=H/\RS w M/\RDs w b f/\sp b M d Z/\Aft w d Q/\∀a c e,xkOf w Z a c e->E a c e
def Aft.ext{w a:Vw}(h:Aft w QD Q)(x:Ext w a):Aft a QD Q:=λv b d M y r q p=>h v b d M (x.trans y) r q p
section
variable{X:Cx}{e:Expr}{w0:Vw}
def PE.imp{t t':TE}(h:PE X e t)(k:∀a H Q,t' a H Q->t a H Q):PE X e t':=λb s a H Q I q=>h b s a H Q I (k a H Q q)
def PT.imp{t t':TT}(h:PT X e t)(k:∀a H Q,t' a H Q->t a H Q):PT X e t':=λb s a H Q I q=>h b s a H Q I (k a H Q q)
def PA.imp{t t':TA}(h:PA X es t)(k:∀a H Q,t' a H Q->t a H Q):PA X es t':=λc b s a H Q I q=>h c b s a H Q I (k a H Q q)
def PS.imp{st:Stmt}{t t':TS}(h:PS X st t)(k:∀R a H,t' R a H->t R a H):PS X st t':=λb s a H R I q=>h b s a H R I (k R a H q)
def PSs.imp{st:List Stmt}{t t':TS}(h:PSs X st t)(k:∀R a H,t' R a H->t R a H):PSs X st t':=λb s a H R I q=>h b s a H R I (k R a H q)
end
def rF(w0:Vw)(g:D->D->Z3->DK->Prop):R2:=λx y H Q=>∃w M b a c,w.H=H/\Ext w0 w/\RS w M/\RD w b x/\RD w a y/\g b a M c/\Aft w c Q
def Zk{w:Vw}{i:Int}:RD w (.int i) v↔v= .int i:=Lr
def Zw{w:Vw}{i:Str}:RD w (.str i) v↔v= .str i:=Lr
def Xz{w:Vw}{i:Bool}:RD w (.bl i) v↔v= .bl i:=Lr
def Ye{w:Vw}:RD w .non v↔v= .non:=Lr
def Y68{w:Vw}{n:String}:RD w (.ty n) v↔v= .ty n:=Lr
def Z45{w:Vw}{n:Uc}:RD w (.cls n) v↔v= .ref n:=Lr
def Zr{w:Vw}{i:Nat}:RD w (.ref i) v↔i<w.n/\v= .ref (w.μ i):=Lr
def Yp{w:Vw}{b:LD}:RD w (.tup b) v↔∃a vs,v= .ref a/\w.H a=some (.tup vs)/\RDs w b vs:=Lr
def Vr{w:Vw}{b:LD}:RD w (.gtup b) v↔∃a vs,v= .ref a/\SqT w.K w.H a vs/\RDs w b vs:=Lr
def Z20{w:Vw}{p C c:Uc}{x y z:D}:RD w (.obj p C c x y z) v↔v= .ref p/\∃a b d,w.H p=some (.ins C c [#v["line",a],#v["lists",b],#v["goings",d]])/\RD w x a/\RD w y b/\RD w z d:=Iff.of_eq (by rw[RD])
def Z05{w:Vw}{e C b:Uc}{a:D}:RD w (.exn e C b a) v↔v= .ref e/\w.H e=some (XO e (.ref C) (some b))/\∃r,w.H b=some (.xd [#v["row",r]])/\RD w a r:=Iff.of_eq (by rw[RD])
def RDs.empty{w:Vw}{a:LD}(h:RDs w a []):a=[]:=by have:=h.length;show Lc.mp this.symm
def Yc6{n:Nat}(h:Z2 M n=some xs):Zg M n=some xs:=by
 ext h Z2;ext Zg;split at h
 .rename_i e;rw[e];show h
 .cases h
def Jo{n:Nat}(h:Z2 M n=some xs):M[n]?=some (.lst xs):=by
 ext h Z2;split at h
 .rename_i e;rw[e];cases h;rfl
 .cases h
def Jf{n:Nat}(h:Yk M n=some xs):M[n]?=some (.dct xs):=by
 ext h Yk;split at h
 .rename_i e;rw[e];cases h;rfl
 .cases h
def RS.list{w:Vw}{n:Nat}(R:RS w M)(h:Z2 M n=some xs):M[n]?=some (.lst xs)/\∃vs,w.H (w.μ n)=some (.lst vs)/\RDs w xs vs:=
 (Jo h,R.cell n _ (Jo h))
set_option tactic.hygienic true in
def RS.listL{w:Vw}{n:Nat}(R:RS w M)(h:Zg M n=some xs):n<w.n/\∃vs,SqL w.K w.H (w.μ n) vs/\RDs w xs vs/\True:=by
 ext h Zg;split at h
 .rename_i a e;cases h;let(vs,q,r):=R.cell n _ e;show(by rw[R.len];show(Ai.mp e).1,vs,.inl (.inl q),r,trivial)
 .rename_i a e;cases h;let(vs,q,r):=R.cell n _ e;show(by rw[R.len];show(Ai.mp e).1,vs,q.sq,r,trivial)
 .cases h
def Yg8{n:Nat}(h:Yk M n=some xs):Zj3 M n=some xs:=by ext Zj3;rw[Jf h]
set_option tactic.hygienic true in
def RS.dictF{w:Vw}{n:Nat}(R:RS w M)(h:Zj3 M n=some xs):∃vs,Rd w.H (w.μ n) (.dK vs)/\RKV w xs vs:=by
 ext h Zj3;split at h
 .rename_i c e;cases h;let(vs,b,a):=R.cell n _ e;show(vs,.inl b,a)
 .rename_i c e;cases h;let(o,vs,b,a):=R.cell n _ e;show(vs,.inr (o,b),a)
 .cases h
def RS.dict{w:Vw}{n:Nat}(R:RS w M)(h:Yk M n=some xs):M[n]?=some (.dct xs)/\∃vs,w.H (w.μ n)=some (.dK vs)/\RKV w xs vs:=
 (Jf h,R.cell n _ (Jf h))
def Xn{w:Vw}{p:Uc}(R:RS w M)(a:w.H p=none)(r:RDs w xs vs):Ext w (w.push p (.lst vs))/\RS (w.push p (.lst vs)) (M++[.lst xs])/\RD (w.push p (.lst vs)) (.ref M.length) (.ref p):=by
 show(Wx a,R.push a (vs,Zf,r.ext (Wx a)),Zr.mpr (?_,?_))
 .change M.length<w.n+1;rw[R.len];lia
 .change V.ref p=V.ref (if M.length=w.n then p else w.μ M.length);rw[nc R.len.symm]
def Be{n:Nat}(h:B7 M n=some xs):M[n]?=some (.dcp xs):=by
 ext h B7;split at h
 .rename_i e;rw[e];cases h;rfl
 .cases h
def RS.dictP{w:Vw}{n:Nat}(R:RS w M)(h:B7 M n=some xs):M[n]?=some (.dcp xs)/\∃vs,w.H (w.μ n)=some (.dT vs)/\RKV w xs vs:=
 (Be h,R.cell n _ (Be h))
def Zk2{w:Vw}{p:Uc}(R:RS w M)(a:w.H p=none)(r:RKV w xs vs):Ext w (w.push p (.dT vs))/\RS (w.push p (.dT vs)) (M++[.dcp xs])/\RD (w.push p (.dT vs)) (.ref M.length) (.ref p):=by
 show(Wx a,R.push a (vs,Zf,r.ext (Wx a)),Zr.mpr (?_,?_))
 .change M.length<w.n+1;rw[R.len];lia
 .change V.ref p=V.ref (if M.length=w.n then p else w.μ M.length);rw[nc R.len.symm]
def Cv{w:Vw}{n:Nat}(R:RS w M)(a:M[n]?=some (.dcp ys))(h:w.H (w.μ n)=some (.dT us))(r:RKV w xs vs):Ext w (w.alloc (w.μ n) (.dT vs))/\RS (w.alloc (w.μ n) (.dT vs)) (M.set n (.dcp xs)):=
 (Xw h rfl,R.write a rfl rfl h rfl (vs,Zf,r.ext (Xw h rfl)))
def Nw{w:Vw}{p:Uc}(R:RS w M)(a:w.H p=none)(r:RKV w xs vs):Ext w (w.push p (.dK vs))/\RS (w.push p (.dK vs)) (M++[.dct xs])/\RD (w.push p (.dK vs)) (.ref M.length) (.ref p):=by
 show(Wx a,R.push a (vs,Zf,r.ext (Wx a)),Zr.mpr (?_,?_))
 .change M.length<w.n+1;rw[R.len];lia
 .change V.ref p=V.ref (if M.length=w.n then p else w.μ M.length);rw[nc R.len.symm]
def Rf{w:Vw}{p:Uc}(R:RS w M)(a:w.H p=none)(r:RDs w xs vs):Ext w (w.alloc p (.tup vs))/\RS (w.alloc p (.tup vs)) M/\RD (w.alloc p (.tup vs)) (.tup xs) (.ref p):=
 (Vp a,R.alloc a,Yp.mpr (p,vs,rfl,Zf,r.ext (Vp a)))
def X9{w:Vw}{n:Nat}(R:RS w M)(a:M[n]?=some (.lst ys))(h:w.H (w.μ n)=some (.lst us))(r:RDs w xs vs):Ext w (w.alloc (w.μ n) (.lst vs))/\RS (w.alloc (w.μ n) (.lst vs)) (M.set n (.lst xs)):=
 (Xw h rfl,R.write a rfl rfl h rfl (vs,Zf,r.ext (Xw h rfl)))
def Z65{w:Vw}{n:Nat}(R:RS w M)(a:M[n]?=some (.dct ys))(h:w.H (w.μ n)=some (.dK us))(r:RKV w xs vs):Ext w (w.alloc (w.μ n) (.dK vs))/\RS (w.alloc (w.μ n) (.dK vs)) (M.set n (.dct xs)):=
 (Xw h rfl,R.write a rfl rfl h rfl (vs,Zf,r.ext (Xw h rfl)))
section
variable{X:Cx}{w0:Vw}
def Rh{f:Ua->Ua->Sem Ua}{g:Int->Int->V}{o:D->D->Z3->DK->Prop}{C:Int->Int->Prop}{k:Int->Int->D}(h:OpR X f (rI C g))(m:∀w i j,RD w (k i j) (g i j))
  {pins:PLO} {s:Ub} {b:L2.St} {x y:V} {v u:Ua} {Q:VK} {w:Vw} {M:Z3} {QD:DK} {i j:Int} (I:Inv X pins b w.H s) (d:RelV x v) (c:RelV y u) (R:RS w M) (l:RD w (.int i) x) (e:RD w (.int j) y)
  (n:C i j) (q:QD (k i j) M) (a:Aft w QD Q):⇑X (f v u) (EP X pins b Q) X.xe s:=by
 cases Zk.mp l;cases Zk.mp e;show h pins s b w.H _ _ v u Q I d c (i,j,rfl,rfl,n,a _ w _ M (Ext.refl w) R (m w i j) q)
def opOf:Op->Operator
 | .add=> .Add | .sub=> .Sub | .mul=> .Mult | .fdiv=> .FloorDiv | .mod=> .Mod | .pow=> .Pow
def Yj8{f:Ua->Ua->Sem Ua}{g:Int->Int->V}(h:OpR X f (rI0 g)):OpR X f (rI (λ_ _=>True) g):=λa s b H x y v u Q I d c zz=>by let(i,j,k,e,_,q):=zz;show h a s b H x y v u Q I d c (i,j,k,e,q)
def RDs.rep{w:Vw}{xs:LD}{vs:LV}(h:RDs w xs vs):∀n:Nat,RDs w (Ds n xs).flatten (Ds n vs).flatten
 | 0=>RDs.nil w
 | n+1=>by rw[Ih,Ih,Kn,Kn];show h.append (RDs.rep h n)
def Zs9(op:Op):OpR X (binaryOp (opOf op)) (rF w0 (opD op)):=by
 intro b s G H x y v u Q I f e h;let(w,M,N,S,QD,rfl,e0,R,d,m,g,a):=h;have t:∀w (i:Int),RD w (.int i) (.int i):=λw i=>Zk.mpr rfl;cases op with
 | add=>
  cases N with
  | int i=>let(j,rfl,g2):=Vq g;clear g;have g:=g2;show Rh (o:=opD .add) (C:=λ_ _=>True) (k:=λi j=> .int (i+j)) (Yj8 Yn8) (λw i j=>t w _) I f e R d m trivial g a
  | str z=>
   cases S with
   | str V=>cases Zw.mp d;cases Zw.mp m;show Z67 b s G w.H _ _ v u Q I f e (_,_,rfl,rfl,g.1,a _ w _ M (Ext.refl w) R (Zw.mpr rfl) g.2)
   | _=>show Az g
  | tup l=>
   let(Z,rfl,g2):=E1 g;clear g;have g:=g2;let(U,c,rfl,K,q):=Yp.mp d;let(T,r,rfl,L,A):=Yp.mp m;let(g1,g2,g3):=g;show Y92 b s G w.H _ _ v u Q I f e (U,T,c,r,rfl,rfl,.of K,.of L,?_,by rw[q.length,A.length];show g2,λz=>?_,λ_ p F=>?_)
   .intro z;subst z;have:=q.length;simp at this;show g1 (Lc.mp this.symm)
   .subst z;cases A.empty;rw[Au] at g3;show a _ w _ M (Ext.refl w) R d g3
   .let(E,D,B):=Rf R F (q.append A);show a _ _ _ M E D B g3
  | ref n=>let(Y,rfl,g2):=Xv g;clear g;have g:=g2;let(K,rfl):=Zr.mp d;let(L,rfl):=Zr.mp m;let(O,W,g1,g2,g3,g4):=g;let(_,c,J,q):=R.list g1;let(_,r,P,A):=R.list g2;show Ym4 b s G w.H _ _ v u Q I f e (_,_,c,r,rfl,rfl,J,P,by rw[q.length,A.length];show g3,λp F=>?_);let(E,D,B):=Xn R F (q.append A);show a _ _ _ _ E D B g4
  | _=>show Az g
 | mul=>
  cases N with
  | int i=>let(j,rfl,g2):=Vq g;clear g;have g:=g2;show Rh (o:=opD .add) (C:=IntMulOk) (k:=λi j=> .int (i * j)) Ye4 (λw i j=>t w _) I f e R d m g.1 g.2 a
  | ref n=>let(k,rfl,g2):=Vq g;clear g;have g:=g2;let(K,rfl):=Zr.mp d;cases Zk.mp m;let(O,g1,g2,g3,g4,g5):=g;let(_,c,J,q):=R.list g1;show Yl2 b s G w.H _ _ v u Q I f e (_,_,c,rfl,rfl,J,'o','o',by rw[q.length];show g4,λp F=>?_);let(E,D,B):=Xn R F (q.rep _);show a _ _ _ _ E D B g5
  | _=>show Az g
 | sub=>let(i,j,rfl,rfl,g2):=Wm g;clear g;have g:=g2;show Rh (o:=opD .add) (C:=λ_ _=>True) (k:=λi j=> .int (i - j)) (Yj8 Yn0) (λw i j=>t w _) I f e R d m trivial g a
 | fdiv=>let(i,j,rfl,rfl,g2):=Wm g;clear g;have g:=g2;show Rh (o:=opD .add) (C:=Z54) (k:=λi j=> .int (qdiv i j)) Zy5 (λw i j=>by rw[Yh2];show t w _) I f e R d m g.1 g.2 a
 | mod=>let(i,j,rfl,rfl,g2):=Wm g;clear g;have g:=g2;show Rh (o:=opD .add) (C:=λ_ j=>j≠0) (k:=λi j=> .int (qmod i j)) Y69 (λw i j=>by rw[Y46];show t w _) I f e R d m g.1 g.2 a
 | pow=>let(i,j,rfl,rfl,g2):=Wm g;clear g;have g:=g2;show Rh (o:=opD .add) (C:=CPow) (k:=λi j=> .int (i ^ j.toNat)) Yo1 (λw i j=>t w _) I f e R d m g.1 g.2 a
end
def rB(w0:Vw)(g:Z3->D->D->(Bool->Prop)->Prop):R2:=λx y H Q=>∃w M c a d,w.H=H/\w.K=w0.K/\RS w M/\RD w c x/\RD w a y/\g M c a d/\∀b,d b->Q (.bl b) H
mutual
theorem Zf1{w:Vw}(R:RS w M):∀(j:PyData) {d:D} {v:V},PD M j d->RD w d v->Rep w.K w.H j v
 | .none,d,v,h,r=>by ext h PD;subst h;ext Rep;show Ye.mp r
 | .bool b,d,v,h,r=>by ext h PD;subst h;ext Rep;show Xz.mp r
 | .int b,d,v,h,r=>by ext h PD;subst h;ext Rep;show Zk.mp r
 | .str b,d,v,h,r=>by ext h PD;subst h;ext Rep;show Zw.mp r
 | .list c,d,v,h,r=>by ext h PD;let(n,l,rfl,k,i):=h;let(_,rfl):=Zr.mp r;let(_,e,g,f,_):=R.listL k;ext Rep;show(_,e,rfl,g,Qx R c i f)
 | .tuple c,d,v,h,r=>by ext h PD;let(l,rfl,i):=h;let(a,e,rfl,g,f):=Yp.mp r;ext Rep;show(_,e,rfl,.of g,Qx R c i f)
 | .dict _,d,v,h,r=>by ext h PD;show h.elim
theorem Qx{w:Vw}(R:RS w M):∀(xs:List PyData) {a:LD} {vs:LV},PDs M xs a->RDs w a vs->Wp w.K w.H xs vs
 | [],a,vs,h,r=>by ext h PDs;subst h;ext r RDs;ext Wp;show r
 | x::xs,a,vs,h,r=>by ext h PDs;let(d,i,rfl,g,f):=h;ext r RDs;let(v,b,rfl,e,c):=r;ext Wp;show(v,b,rfl,Zf1 R x g e,Qx R xs f c)
end
theorem Qh{w:Vw}{d:D}(f:Yd d=true)(r:RD w d v):Wd v=true:=by
 cases d<;>simp[Yd] at f
 .cases Ye.mp r;rfl
 .cases Xz.mp r;rfl
 .cases Zk.mp r;rfl
 .cases Zw.mp r;rfl
def Zl3{w:Vw}{d e:D}(f:Yd d=true)(g:Yd e=true)(r:RD w d v)(q:RD w e u):eqV v u=eqF d e:=by
 cases d<;>simp[Yd] at f
 all_goals (cases e<;>simp[Yd] at g)
 all_goals first
  |(first | cases Ye.mp r | cases Xz.mp r | cases Zk.mp r | cases Zw.mp r)
 all_goals first
  |(first | cases Ye.mp q | cases Xz.mp q | cases Zk.mp q | cases Zw.mp q)
 all_goals rfl
def Y04{w:Vw}{x:D}(f:Yd x=true)(r:RD w x v):∀{a:LD} {vs:LV},a.all Yd=true->RDs w a vs->inV v vs=inD x a/\vs.all Wd=true
 | [],vs,_,h=>by ext h RDs;subst h;show(rfl,rfl)
 | d::a,vs,g,h=>by ext h RDs;let(j,k,rfl,b,i):=h;erw[Ic,Bz9] at g;let(e,c):=Y04 f r g.2 i;show(?_,by erw[Ic,Bz9];show(Qh g.1 b,c));unfold inV inD at *;rw[Ax,Ax,Zl3 g.1 f b r,e]
def RKV.val{a:Type}[DecidableEq a]{w:Vw}:∀{b:List (a×D)} {vs:List (a×V)} (k:a),RKV w b vs->(valD b k=none/\valV vs k=none)\/∃d v,valD b k=some d/\valV vs k=some v/\RD w d v
 | [],vs,k,h=>by ext h RKV;subst h;show .inl (rfl,rfl)
 |#v[c,d]::b,vs,k,h=>by
  ext h RKV;let(v,r,rfl,g,f):=h;by_cases e:c=k
  .show .inr (d,v,by simp[valD,Hq,e],by simp[valV,Hq,e],g)
  .have:=RKV.val k f;simpa[valD,valV,Hq,e] using this
def RKV.length{b:Type}{w:Vw}:∀{a:List (b×D)} {vs:List (b×V)},RKV w a vs->vs.length=a.length
 | [],vs,h=>by ext h RKV;subst h;rfl
 |#v[e,d]::a,vs,h=>by ext h RKV;let(v,r,rfl,f,c):=h;simp[RKV.length c]
def RKV.any{a:Type}[DecidableEq a]{w:Vw}(k:a):∀{c:List (a×D)} {vs:List (a×V)},RKV w c vs->(vs.any λb=>decide (b.1=k))=(c.any λb=>decide (b.1=k))
 | [],vs,h=>by ext h RKV;subst h;rfl
 |#v[f,d]::c,vs,h=>by ext h RKV;let(v,r,rfl,g,e):=h;simp[RKV.any k e]
def RKV.repl{b:Type}[DecidableEq b]{w:Vw}{k:b}{d:D}{v:V}(q:RD w d v):∀{c:List (b×D)} {vs:List (b×V)},RKV w c vs->RKV w (c.map λa=>if a.1=k then#v[a.1,d] else a) (vs.map λa=>if a.1=k then#v[a.1,v] else a)
 | [],vs,h=>by ext h RKV;subst h;ext RKV;rfl
 |#v[i,l]::c,vs,h=>by
  ext h RKV;let(g,r,rfl,j,f):=h;erw[Aj];by_cases e:i=k
  .rw[nc e,nc e];ext RKV;show(v,_,rfl,q,RKV.repl q f)
  .rw[nb e,nb e];ext RKV;show(g,_,rfl,j,RKV.repl q f)
def RKV.snoc{b:Type}{w:Vw}{k:b}{d:D}{v:V}(q:RD w d v):∀{a:List (b×D)} {vs:List (b×V)},RKV w a vs->RKV w (a++[#v[k,d]]) (vs++[#v[k,v]])
 | [],vs,h=>by ext h RKV;subst h;ext RKV;show(v,[],rfl,q,by ext RKV;rfl)
 |#v[e,i]::a,vs,h=>by ext h RKV;let(c,r,rfl,g,f):=h;change RKV w (#v[e,i]::(a++[#v[k,d]])) _;ext RKV;show(c,_,rfl,g,RKV.snoc q f)
def RKV.put{a:Type}[DecidableEq a]{w:Vw}{k:a}{d:D}{v:V}(q:RD w d v){b:List (a×D)}{vs:List (a×V)}(h:RKV w b vs):RKV w (putD b k d) (putK vs k v):=by
 unfold putD putK;rw[h.any k];split
 .show h.repl q
 .show h.snoc q
def Ft{w:Vw}:∀{ks:List Key} {vs:LV},RDs w (ks.map kD) vs->vs=ks.map kV
 | [],vs,h=>by ext h RDs;show h
 | k::ks,vs,h=>by
  rw[Aj] at h;ext h RDs;let(v,r,rfl,a,b):=h;rw[Ft b];cases k with
  | inl i=>rw[Zk.mp a];rfl
  | inr x=>rw[Zw.mp a];rfl
def Ei{w:Vw}{ks:List Key}{v:V}(r:RD w (.tup (ks.map kD)) v):∃b,v= .ref b/\w.H b=some (.tup (ks.map kV)):=by let(b,d,rfl,c,a):=Yp.mp r;show(b,rfl,by rw[<-Ft a];show c)
def Eg{w:Vw}{d:D}{k:Key}{v:V}(h:keyD d=some k)(r:RD w d v):v=kV k:=by
 cases d<;>simp[keyD] at h
 .subst h;show Zk.mp r
 .subst h;show Zw.mp r
section
variable{X:Cx}{w0:Vw}
def cmOf:Cm->CmpOp
 | .lt=> .Lt | .gt=> .Gt | .eq=> .Eq | .ne=> .NotEq | .is=> .Is | .isin=> .In | .notin=> .NotIn
def Yo7(n:X.A.units+64<cLine):OpR X (compareOp .NotEq) (rEqD X.K true):=by intro a s m H x y v u Q I c b h;let(l,k,j,i,g,f,o,q):=h;let(r,e):=Rep.reads I l x v j c;let(p,d):=Rep.reads I k y u i b;show PySem.SeqAt.compareNe_reads e d g f 'o' (.bl _,H,I,rfl,q)
def Vd{w:Vw}:∀{a:LD} {vs:LV},a.all Yd=true->RDs w a vs->vs.all Wd=true
 | [],vs,_,r=>by ext r RDs;subst r;rfl
 | d::a,vs,f,r=>by ext r RDs;let(v,e,rfl,c,b):=r;rw[Ic,Bz9] at f;rw[Ic,Qh f.1 c,Vd f.2 b];rfl
def Z01{w:Vw}(f:xs.all Yd=true)(g:ys.all Yd=true)(r:RDs w xs vs)(q:RDs w ys us):eqVs vs us=eqFs xs ys:=by
 unfold eqVs eqFs;rw[r.length,q.length];congr 1;have:∀j∈Dn (min xs.length ys.length),eqV (vs.getD j .non) (us.getD j .non)=eqF (xs.getD j .non) (ys.getD j .non):=by intro j a;rw[Lm] at a;have c:j<xs.length:='o';have b:j<ys.length:='o';let(v,k,e):=r.get (Ah c);let(u,i,d):=q.get (Ah b);rw[Hy] at f g;erw[Dd,k,i,Ah c,Ah b,Option.getD_some];show Zl3 (f _ (Hs c)) (g _ (Hs b)) e d
 rw[Bool.eq_iff_iff,Hy,Hy];constructor
 .intro h j a;rw[<-this j a];show h j a
 .intro h j a;rw[this j a];show h j a
def Yd4{w:Vw}{x y:V}(d:RD w e x)(a:RD w c y):∀b,eqS e c=some b->scal x y=true/\decide (x=y)=b:=by
 intro b h;cases e with
 | int i=>
  cases Zk.mp d;cases c with
  | int j=>cases Zk.mp a;cases h;show(rfl,by simp)
  | str j=>cases Zw.mp a;cases h;show(rfl,by simp)
  | non=>cases Ye.mp a;cases h;show(rfl,by simp)
  | _=>cases h
 | str i=>
  cases Zw.mp d;cases c with
  | str j=>cases Zw.mp a;cases h;show(rfl,by simp)
  | int j=>cases Zk.mp a;cases h;show(rfl,by simp)
  | non=>cases Ye.mp a;cases h;show(rfl,by simp)
  | bl j=>cases Xz.mp a;cases h;show(rfl,by simp)
  | _=>cases h
 | bl i=>
  cases Xz.mp d;cases c with
  | bl j=>cases Xz.mp a;cases h;show(rfl,by simp)
  | non=>cases Ye.mp a;cases h;show(rfl,by simp)
  | str j=>cases Zw.mp a;cases h;show(rfl,by simp)
  | _=>cases h
 | non=>
  cases Ye.mp d;cases c with
  | non=>cases Ye.mp a;cases h;show(rfl,by simp)
  | int j=>cases Zk.mp a;cases h;show(rfl,by simp)
  | bl j=>cases Xz.mp a;cases h;show(rfl,by simp)
  | str j=>cases Zw.mp a;cases h;show(rfl,by simp)
  | _=>cases h
 | _=>cases h
def Z44(hK:X.K=w0.K)(hu:X.A.units+64<cLine)(neg:Bool):OpR X (compareOp (if neg then .NotEq else .Eq)) (rB w0 λM x y Q=>eqD M x y λb=>Q (if neg then !b else b)):=by
 intro pins s σ H x y v u Q I rx ry h;let(w,M,dx,dy,QD,rfl,e0,R,hx,hy,g,a):=h;have key:∀b:Bool,(scal x y=true/\decide (x=y)=b)->QD (if neg then !b else b)->⇑X (compareOp (if neg then .NotEq else .Eq) v u) (EP X pins σ Q) X.xe s:=by
  rintro b ⟨h1,h2⟩ hq;cases neg with
  | true=>show Yv0 pins s σ w.H x y v u Q I rx ry (h1,by rw[h2];show a _ hq)
  | false=>show Yx0 pins s σ w.H x y v u Q I rx ry (h1,by rw[h2];show a _ hq)
 have hs:=Yd4 hx hy;ext g eqD;cases hb:eqS dx dy with
 | some b=>rw[hb] at g;show key b (hs b hb) g
 | none=>
  rw[hb] at g;rcases g with⟨da,db,p1,p2,p3,p4,p5,g⟩|z9|⟨m,n,xs,rfl,rfl,p1,p2,g⟩|⟨xs,ys,ex,ey,f1,f2,g⟩
  .have q1:=Zf1 R da p1 hx;have q2:=Zf1 R db p2 hy;rw[e0,<-hK] at q1 q2;cases neg with
   | true=>show Yo7 hu pins s σ w.H x y v u Q I rx ry (da,db,q1,q2,p3,p4,p5,a _ g)
   | false=>show Yo2 hu pins s σ w.H x y v u Q I rx ry (da,db,q1,q2,p3,p4,p5,a _ g)
  .show z9.elim
  .let(_,rfl):=Zr.mp hx;let(_,rfl):=Zr.mp hy;let(_,va,ha,ra,_):=R.listL p1;let(_,vb,hb,rb,_):=R.listL p2;rw[e0,<-hK] at ha hb;ext rb RDs;subst rb;cases (show v=Ay (w.μ m) from rx);cases (show u=Ay (w.μ n) from ry);have he:va.isEmpty=xs.isEmpty:=by have:=ra.length;cases va<;>cases xs<;>simp_all
   show Zr5 I hu neg ha hb (by rw[he];show a _ g)
  .have tp:∀{d:D} {zs:LD} {x:V},(d= .tup zs\/d= .gtup zs)->RD w d x->∃p vs,x= .ref p/\SqT X.K w.H p vs/\RDs w zs vs:=by
    rintro d zs x (rfl|rfl) r
    .let(p,vs,e,q1,q2):=Yp.mp r;show(p,vs,e,.of q1,q2)
    .let(p,vs,e,q1,q2):=Vr.mp r;rw[e0,<-hK] at q1;show(p,vs,e,q1,q2)
   let(p,va,rfl,ha,ra):=tp ex hx;let(p2,vb,rfl,hb,rb):=tp ey hy;cases (show v=Ay p from rx);cases (show u=Ay p2 from ry);show Y82 I hu neg ha hb (Vd f1 ra) (Vd f2 rb) (by rw[Z01 f1 f2 ra rb];show a _ g)
def Yr7{p:L2.St}{s:Ub}(I:Inv X pins p H s)(J:A.units+2<cLine){a b:Uc}(n:SqT X.K H a vs)(m:SqT X.K H b ys)(k:vs.all Wd=true)(o:ys.all Wd=true):Dt A s (.ref a) (.ref b) (eqVs vs ys):=by
 by_cases e:a=b
 .subst e;cases I.tuple_inj n m;rw[Zi7 k];show Dt.same _
 .let(g,l,v,_):=I.tuple n;let(f,c,t,_):=I.tuple m;have B:=l.length;have z:=c.length;have d:=SeqAt.RcAt.tuples (A:=A) (e:=λj=>eqV (vs.getD j .non) (ys.getD j .non)) v t 'o' (λj E D=>by
   have i:j<vs.length:=by rw[Ak] at E;lia
   have h:j<ys.length:=by rw[Ak] at D;lia
   let(u,G,y):=l.get (Ah i);let(w,F,x):=c.get (Ah h);have r:g.toArray[j]=u:=by have:=(Ai.mp G).2;simpa using this
   have q:f.toArray[j]=w:=by have:=(Ai.mp F).2;simpa using this
   rw[r,q,Dd,Dd,Ah i,Ah h];rw[Hy] at k o;show Zd8 y x (k _ (Hs i)) (o _ (Hs h)))
  have C:((Dn (min g.toArray.size f.toArray.size)).all (λj=>eqV (vs.getD j .non) (ys.getD j .non))&&g.toArray.size==f.toArray.size)=eqVs vs ys:=by ext eqVs;rw[Ak,Ak,B,z]
  rw[C] at d;show Dt.of_refs e d
def Yu0{w:Vw}{z:Bool×LD}(h:RD w (gt z) v):∃a us,v= .ref a/\SqT w.K w.H a us/\RDs w z.2 us:=by
 let(b,z):=z;cases b with
 | true=>show Vr.mp h
 | false=>let(a,us,e,d,c):=Yp.mp h;show(a,us,e,.of d,c)
def Gh{w:Vw}:∀{xs:List (Bool×LD)} {vs:LV},RDs w (xs.map gt) vs->(xs.all λz=>z.2.all Yd)=true->∃ts:List (LV),ts.length=vs.length/\(∀(j:Nat) u,vs[j]?=some u->∃a us,u= .ref a/\SqT w.K w.H a us/\ts[j]?=some us/\us.all Wd=true)/\∀(ys:LD) (t:LV),ys.all Yd=true->RDs w ys t->(ts.any λus=>eqVs us t)=xs.any λz=>eqFs z.2 ys
 | [],vs,h,_=>by rw[Dz] at h;ext h RDs;subst h;show([],rfl,λj u e=>by simp at e,λ_ _ _ _=>rfl)
 | z::A,vs,h,f=>by
  rw[Aj] at h;ext h RDs;let(v,r,rfl,o,n):=h;rw[Ic,Bz9] at f;let(a,us,rfl,m,d):=Yu0 o;let(ts,l,k,i):=Gh n f.2;show(us::ts,by rw[Af,Af,l],λj u e=>?_,λys t g c=>by rw[Ax,Ax,i ys t g c,Z01 f.1 g d c]);cases j with
  | zero=>cases e;show(a,us,rfl,m,rfl,Vd f.1 d)
  | succ j=>let(y,b,x,s,q,p):=k j u ↥e;show(y,b,x,s,↥q,p)
open Classical in
def eqUS(K:Aa)(H:Hp)(t:LV)(w:Ua):Bool:=if ∃a b,w= .ref a/\SqT K H a b/\eqVs b t=true then true else false
def Yw8{s:Ub}(I:Inv X pins o H s)(O:X.A.units+64<cLine)(f:Bool){p b:Uc}{ts:List (LV)}{t:LV}(E:SqL X.K H p xs)(G:xs.length=ts.length)(F:∀(j:Nat) u,xs[j]?=some u->∃a us,u= .ref a/\SqT X.K H a us/\ts[j]?=some us/\us.all Wd=true)(J:H b=some (.tup t))(L:t.all Wd=true)
  (q:Q (.bl (if f then !(ts.any λus=>eqVs us t) else ts.any λus=>eqVs us t)) H):
  ⇑X (compareOp (if f then .NotIn else .In) (.ref b) (.ref p)) (EP X pins o Q) X.xe s:=by
 let(c,r,y,N):=I.list E;have k:∀(j:Nat) w,c[j]?=some w->∃a us,w= .ref a/\SqT X.K H a us/\ts[j]?=some us/\us.all Wd=true:=by
  intro j w g;have m:j<xs.length:=by rw[r.length];show(Ai.mp g).1
  let(a,us,i,d,h,n):=F j xs[j] (Ah m);let(M,x,v):=r.get (Ah m);rw[g] at x;cases x;rw[i] at v;cases v;show(a,us,rfl,d,h,n)
 have C:∀(a:Uc) (us:LV),SqT X.K H a us->eqUS X.K H t (.ref a)=eqVs us t:=by
  intro a us e;ext eqUS;cases z:eqVs us t with
  | true=>show nc (a,us,rfl,e,z)
  | false=>show nb ?_;rintro⟨P,D,i,d,h⟩;cases i;cases I.tuple_inj e d;rw[z] at h;cases h
 have B:∀w∈c.toArray,Dt X.A.in1 s w (.ref b) (eqUS X.K H t w):=by intro w g;let(j,m):=List.getElem?_of_mem (show w∈c by simpa using g);let(a,us,rfl,d,h,n):=k j w m;rw[C a _ d];show Yr7 I (by change X.A.units+1+2<cLine;lia) d (.of J) n L
 have l:c.toArray.any (eqUS X.K H t)=ts.any λus=>eqVs us t:=by
  rw[show c.toArray.any (eqUS X.K H t)=c.any (eqUS X.K H t) by simp];have:c.map (eqUS X.K H t)=ts.map λus=>eqVs us t:=by
   show List.ext_getElem? λj=>?_;rw[Dj,Dj];cases g:c[j]? with
   | none=>rw[Ip (by rw[<-G,r.length];show List.getElem?_eq_none_iff.mp g)];rfl
   | some w=>let(a,us,rfl,d,h,n):=k j w g;rw[h];change some _=some _;rw[C a _ d]
  have i:c.any (eqUS X.K H t)=(c.map (eqUS X.K H t)).any id:=by rw[List.any_map];rfl
  have d:(ts.any λus=>eqVs us t)=(ts.map λus=>eqVs us t).any id:=by rw[List.any_map];rfl
  rw[i,d,this]
 cases f with
 | true=>show SeqAt.notIn_listAt (eqUS X.K H t) y.isList B (.bl _,H,I,rfl,by rw[l];show q)
 | false=>show SeqAt.in_listAt (eqUS X.K H t) y.isList B (.bl _,H,I,rfl,by rw[l];show q)
def Bj(S:X.K=w0.K)(hu:X.A.units+64<cLine)(i:Bool):OpR X (compareOp (if i then .NotIn else .In)) (rB w0 λM x y Q=>inQ M x y λb=>Q (if i then !b else b)):=by
 intro j s L H x y v u Q I r C h;let(w,M,W,dy,QD,rfl,T,R,F,P,g,a):=h;have B:∀{p:Uc} {c:LV} {z:LD},y= .ref p->(SqL X.K w.H p c\/SqT X.K w.H p c)->RDs w z c->Yd W=true->z.all Yd=true->QD (if i then !inD W z else inD W z)->
   ⇑X (compareOp (if i then .NotIn else .In) v u) (EP X j L Q) X.xe s:=by
  intro p c z ey f l g2 g3 g4;let(i1,Z):=Y04 g2 F g3 l;cases i with
  | true=>show F9 j s L w.H _ _ v u Q I r C (p,c,ey,f,Qh g2 F,Z,by rw[i1];show a _ g4)
  | false=>show Zi4 j s L w.H _ _ v u Q I r C (p,c,ey,f,Qh g2 F,Z,by rw[i1];show a _ g4)
 ext g inQ;split at g
 .cases Zw.mp F;cases Zw.mp P;cases i with
  | true=>show E4 j s L w.H _ _ v u Q I r C (_,_,rfl,rfl,a _ g)
  | false=>show Zc0 j s L w.H _ _ v u Q I r C (_,_,rfl,rfl,a _ g)
 .let(_,rfl):=Zr.mp P;rcases g with⟨z,g1,g2,g3,g4⟩|⟨o,k,g1,g2,g3⟩|⟨ys,z,rfl,g1,g2,g3,g4⟩|⟨o,E,rfl,g1,g3⟩
  .let(_,c,f,l,_):=R.listL g1;rw[T,<-S] at f;show B rfl (.inl f) l g2 g3 g4
  .let(_,c,f,l):=R.dict g1;cases Eg g2 F;cases (show u=Ay _ from C);have hv:valV c k=none/\valD o k=none\/∃d N,valD o k=some d/\valV c k=some N:=by
    rcases l.val k with⟨n,m⟩|⟨d,N,n,m,_⟩
    .show .inl (m,n)
    .show .inr (d,N,n,m)
   have G:(valV c k).isSome=(valD o k).isSome:=by
    rcases hv with⟨n,m⟩|⟨d,N,n,m⟩
    .rw[n,m];rfl
    .rw[n,m];rfl
   have q:X.A.units+1<cLine:='o';cases i with
   | true=>show Zc4 q I (DGet.k (k:=k) f) r λU J=>(.bl (!(valV c k).isSome),w.H,J,rfl,by rw[G];show a _ g3)
   | false=>show d_in q I (DGet.k (k:=k) f) r λU J=>(.bl (valV c k).isSome,w.H,J,rfl,by rw[G];show a _ g3)
  .let(_,c,f,l,_):=R.listL g1;rw[T,<-S] at f;let(b,us,rfl,G,Y):=Yp.mp F;cases (show v=Ay b from r);cases (show u=Ay _ from C);let(ts,h1,h2,h3):=Gh l g3;rw[T,<-S] at h2;show Yw8 I hu i f h1.symm h2 G (Vd g2 Y) ?_;rw[h3 _ _ g2 Y];show a _ g4
  .let(_,c,f,l):=R.dictP g1;let(b,rfl,G):=Ei F;cases (show u=Ay _ from C);have O:(valV c E).isSome=(valD o E).isSome:=by
    rcases l.val E with⟨n,m⟩|⟨d,N,n,m,_⟩
    .rw[n,m];rfl
    .rw[n,m];rfl
   have q:X.A.units+1<cLine:='o';cases i with
   | true=>show Zc4 q I (DGet.t (k:=E) f G) r λU J=>(.bl (!(valV c E).isSome),w.H,J,rfl,by rw[O];show a _ g3)
   | false=>show d_in q I (DGet.t (k:=E) f G) r λU J=>(.bl (valV c E).isSome,w.H,J,rfl,by rw[O];show a _ g3)
 .let(p,c,e,f,l):=Yp.mp P;show B e (.inr (.of f)) l g.1 g.2.1 g.2.2
 .let(p,c,e,f,l):=Vr.mp P;rw[T,<-S] at f;show B e (.inr f) l g.1 g.2.1 g.2.2
 .show g.elim
def Bl(B:X.K=w0.K)(t:X.A.units+64<cLine)(op:Cm):OpR X (compareOp (cmOf op)) (rB w0 λM=>cmD M op):=by
 intro c s f H x y v u Q I m k h;let(w,M,G,F,E,rfl,D,R,r,o,g,a):=h;cases op with
 | lt=>let(i,j,rfl,rfl,g2):=Wm g;clear g;have g:=g2;cases Zk.mp r;cases Zk.mp o;show Yy6 c s f w.H _ _ v u Q I m k (_,_,rfl,rfl,a _ g)
 | gt=>let(i,j,rfl,rfl,g2):=Wm g;clear g;have g:=g2;cases Zk.mp r;cases Zk.mp o;show Yx9 c s f w.H _ _ v u Q I m k (_,_,rfl,rfl,a _ g)
 | eq=>show Z44 B t false c s f w.H x y v u Q I m k (w,M,_,_,E,rfl,D,R,r,o,g,a)
 | ne=>show Z44 B t true c s f w.H x y v u Q I m k (w,M,_,_,E,rfl,D,R,r,o,g,a)
 | is=>
  cases F with
  | non=>
   cases G with
   | non=>cases Ye.mp r;cases Ye.mp o;show Q7 c s f w.H _ _ v u Q I m k (rfl,a _ g)
   | bl b=>cases Xz.mp r;cases Ye.mp o;show Q7 c s f w.H _ _ v u Q I m k (rfl,a _ g)
   | int i=>cases Zk.mp r;cases Ye.mp o;show Q7 c s f w.H _ _ v u Q I m k (rfl,a _ g)
   | str z=>cases Zw.mp r;cases Ye.mp o;show Q7 c s f w.H _ _ v u Q I m k (rfl,a _ g)
   | tup l=>let(_,_,rfl,_):=Yp.mp r;cases Ye.mp o;show Q7 c s f w.H _ _ v u Q I m k (rfl,a _ g)
   | ref n=>let(_,rfl):=Zr.mp r;cases Ye.mp o;show Q7 c s f w.H _ _ v u Q I m k (rfl,a _ g)
   | exn e C d q=>let(rfl,_):=Z05.mp r;cases Ye.mp o;show Q7 c s f w.H _ _ v u Q I m k (rfl,a _ g)
   | obj p C d N L J=>let(rfl,_):=Z20.mp r;cases Ye.mp o;show Q7 c s f w.H _ _ v u Q I m k (rfl,a _ g)
   | _=>show Az g
  | _=>show Az g
 | isin=>show Bj B t false c s f w.H x y v u Q I m k (w,M,_,_,E,rfl,D,R,r,o,g,a)
 | notin=>show Bj B t true c s f w.H x y v u Q I m k (w,M,_,_,E,rfl,D,R,r,o,g,a)
end
def RKV.isEmpty{w:Vw}{a:KQ9}(h:RKV w a vs):vs.isEmpty=a.isEmpty:=by
 cases a with
 | nil=>ext h RKV;subst h;rfl
 | cons p a=>let(k,d):=p;ext h RKV;let(v,r,rfl,_):=h;rfl
def RDs.isEmpty{w:Vw}{a:LD}(h:RDs w a vs):vs.isEmpty=a.isEmpty:=by
 cases a with
 | nil=>ext h RDs;subst h;rfl
 | cons d a=>ext h RDs;let(v,r,rfl,_):=h;rfl
def Sz{K:Aa}{w:Vw}{d:D}{x:V}(h:w.K=K)(R:RS w M)(r:RD w d x)(g:truD M d QD):∃k,TruV K x w.H k/\QD k:=by
 ext g truD;split at g
 .cases Ye.mp r;show(_,rfl,g)
 .cases Xz.mp r;show(_,rfl,g)
 .cases Zk.mp r;show(_,rfl,g)
 .cases Zw.mp r;show(_,(g.1,rfl),g.2)
 .let(a,c,rfl,b,e):=Yp.mp r;show(_,.inr (.inl (c,.of b,rfl)),by rw[e.isEmpty];show g)
 .let(_,rfl):=Zr.mp r;rcases g with⟨f,g1,g2⟩|⟨f,g1,g2⟩
  .let(_,c,b,e,_):=R.listL g1;rw[h] at b;show(_,.inl (c,b,rfl),by rw[e.isEmpty];show g2)
  .let(_,c,b,e):=R.dict g1;show(_,.inr (.inr (c,b,rfl)),by rw[e.isEmpty];show g2)
 .show g.elim
def Ev{w:Vw}{i:Int}{d:D}(r:RDs w xs vs)(h:atI xs i=some d):∃v,atI vs i=some v/\RD w d v:=by unfold atI at *;rw[r.length];let(j,e,c):=Option.bind_eq_some_iff.mp h;let(v,b,a):=r.get c;show(v,by rw[e];show b,a)
def Cn{w:Vw}{xs:LD}{vs:LV}{lo hi:Option Int}(r:RDs w xs vs):RDs w (cutD xs lo hi) (cutV vs lo hi):=by unfold cutD cutV;rw[r.length];show(r.drop _).take _
section
variable{X:Cx}{w0:Vw}
def Zi5(t:X.A.units+1<cLine):IxR X (λx y H Q=>∃a v,x= .ref a/\DGet H a y (some v)/\Q v H):=by
 intro d e c s l H x y v u Q I p o h z;let(a,n,rfl,g,q):=h;cases p;have m:=Cb I g;have j:⇑X (getItem (.ref a) u) (EP X c l Q) X.xe s:=Zm6 t I g o λC D B k=>(n,H,B,k,q);ext subscriptTail;show Ag ?_;rw[getitemInPython_of_ne m.not_modules];show Ag (wpAny_specialOf m PySem.F.slot_dict_getitem.lookup ?_);have f:⇑X (subscripted e false (.ref a) u) (λr b=>⇑X (letTemporaryGo d (.ref a) r >>=λ_=>pure r) (EP X c l Q) X.xe b) X.xe s:=by rw[z];show wpAny_operating (Hi j (λr b i=>Ag (wpAny_letTemporaryGo (Ar i))) λ_ _ x=>x)
 first
  | show Ar (Ag f)
  | show Ag (Ar (Ag f))
  | show Ag f
def rX(w0:Vw):R2:=λx y H Q=>∃w M b a c,w.H=H/\w.K=w0.K/\RS w M/\RD w b x/\RD w a y/\ixD M b a c/\∀d v,c d->RD w d v->Q v H
def Zw0(S:X.K=w0.K)(Y:X.A.units+64<cLine):IxR X (rX w0):=by
 intro e f j s q H x y v u Q I z r h C;let(w,M,dx,Z,QD,rfl,T,R,J,B,g,a):=h;ext g ixD;split at g
 .let(_,rfl):=Zr.mp J;rcases g with⟨W,i,d,rfl,g1,g2,g3⟩|⟨O,k,d,g1,g2,g3,g4⟩|⟨O,P,d,g1,rfl,g3,g4⟩
  .cases Zk.mp B;let(_,m,l,n,_):=R.listL g1;rw[T,<-S] at l;let(F,E,D):=Ev n g2;show Yi5 e f j s q w.H _ _ v u Q I z r (_,m,i,F,rfl,rfl,l,E,a _ _ g3 D) C
  .let(m,l,n):=R.dictF g1;cases Eg g2 B;rcases n.val k with⟨o,G⟩|⟨V,L,o,G,N⟩
   .rw[o] at g3;cases g3
   .rw[o] at g3;cases g3;show Zi5 'o' e f j s q w.H _ _ v u Q I z r (_,L,rfl,?_,a _ _ g4 N) C;have:DGet w.H (w.μ _) (kV k) (valV m k):= .inl (m,k,l,rfl,rfl);rwa[G] at this
  .let(_,m,l,n):=R.dictP g1;let(b,rfl,U):=Ei B;rcases n.val P with⟨o,G⟩|⟨V,L,o,G,N⟩
   .rw[o] at g3;cases g3
   .rw[o] at g3;cases g3;show Zi5 'o' e f j s q w.H _ _ v u Q I z r (_,L,rfl,?_,a _ _ g4 N) C;have:=DGet.t (k:=P) l U;rwa[G] at this
 .cases Zk.mp B;let(p,m,rfl,l,n):=Yp.mp J;let(d,g1,g2):=g;let(F,E,D):=Ev n g1;show Y05 e f j s q w.H _ _ v u Q I z r (_,m,_,F,rfl,rfl,.of l,E,a _ _ g2 D) C
 .cases Zk.mp B;let(p,m,rfl,l,n):=Vr.mp J;rw[T,<-S] at l;let(d,g1,g2):=g;let(F,E,D):=Ev n g1;show Y05 e f j s q w.H _ _ v u Q I z r (_,m,_,F,rfl,rfl,l,E,a _ _ g2 D) C
 .cases Zk.mp B;cases Zw.mp J;let(g0,c,g1,g2):=g;show Yq3 e f j s q w.H _ _ v u Q I z r (_,_,c,rfl,rfl,g0,g1,a _ _ g2 (Zw.mpr rfl)) C
 .show g.elim
def Yk0:SlR X (λx lo hi H Q=>∃z,x= .str z/\z.length<=sizeLine/\Q (.str (Txt.slice z lo hi)) H):=by
 intro b s f H x v m g lo hi n Q I o y p e h;let(z,rfl,r,q):=h;let(t,rfl):=o;have a:∀l u:Option (Int×Tok),l.map (·.1)=lo->u.map (·.1)=hi->m=partValue l->g=partValue u->⇑X (getItem (.str z t) (.ref n)) (EP X b f Q) X.xe s:=by intro l u E D C B;subst E D C B;show wpAny_getItem_str_slice (l:=l) (u:=u) (st:=none) y rfl ?_;show post_val_or_str (nh (Txt.slice_le z _ _) r,λG k=>(.str (Txt.slice z _ _),H,I.tok _,(_,rfl),q))
 show("str",_,PySem.F.slot_str_getitem.lookup,typeIs_str _ _ _,?_);cases p with
 | none=>
  cases e with
  | none=>show a none none rfl rfl rfl rfl
  | int j c=>show a none (some #v[j,c]) rfl rfl rfl rfl
 | int i d=>
  cases e with
  | none=>show a (some #v[i,d]) none rfl rfl rfl rfl
  | int j c=>show a (some #v[i,d]) (some #v[j,c]) rfl rfl rfl rfl
def rSl(w0:Vw):V->Option Int->Option Int->Hp->VK->Prop:=λx c d H Q=>∃w M a b,w.H=H/\w.K=w0.K/\RS w M/\RD w a x/\slD a c d M b/\Aft w b Q
def Zu9(B:X.K=w0.K):SlR X (rSl w0):=by
 intro b s e H x v m k z A n Q I o u r q h;let(w,M,E,F,rfl,C,R,t,g,a):=h;ext g slD;split at g
 .cases Zw.mp t;show Yk0 b s e w.H _ v m k _ _ n Q I o u r q (_,rfl,g.1,a _ w _ M (Ext.refl w) R (Zw.mpr rfl) g.2)
 .let(_,rfl):=Zr.mp t;let(D,g1,g2):=g;let(_,l,d,c,_):=R.listL g1;rw[C,<-B] at d;show Y93 b s e w.H _ v m k _ _ n Q I o u r q (_,l,rfl,d,λp y=>?_);let(j,i,f):=Xn R y (Cn (lo:=z) (hi:=A) c);show a _ _ _ _ j i f g2
 .let(p,l,rfl,d,c):=Yp.mp t;show Y38 b s e w.H _ v m k _ _ n Q I o u r q (_,l,rfl,.of d,by rw[c.length];show g.1,λp y=>?_);let(j,i,f):=Rf R y (Cn (lo:=z) (hi:=A) c);show a _ _ _ _ j i f g.2
 .show g.elim
def rC(w0:Vw)(g:LD->Z3->DK->Prop):LV->Hp->VK->Prop:=λc H Q=>∃w M a b,w.H=H/\w.K=w0.K/\RS w M/\RDs w a c/\g a M b/\Aft w b Q
def bfOf:Bf->Str×Ua
 | .len=>#v["len",.builtin "len"] | .isinst=>#v["isinstance",.builtin "isinstance"]
 | .tuple1=>#v["tuple",.type "tuple"] | .dict1=>#v["dict",.type "dict"]
def rds1{w:Vw}{d:D}(h:RDs w [d] xs):∃v,xs=[v]/\RD w d v:=by ext h RDs;let(v,r,rfl,b,a):=h;ext a RDs;subst a;show(v,rfl,b)
def rds2{w:Vw}{d e:D}(h:RDs w [d,e] xs):∃v u,xs=[v,u]/\RD w d v/\RD w e u:=by ext h RDs;let(v,r,rfl,c,b):=h;let(u,rfl,a):=rds1 b;show(v,u,rfl,c,a)
def rds0{w:Vw}(h:RDs w [] xs):xs=[]:=by ext h RDs;show h
def Zi9{w:Vw}:∀{b:List Uc} {vs:LV},RDs w (b.map D.cls) vs->vs=b.map V.ref
 | [],vs,h=>rds0 h
 | a::r,vs,h=>by rw[Aj] at h;ext h RDs;let(v,c,rfl,e,d):=h;rw[Z45.mp e,Zi9 d];rfl
def Yt2(K:Aa):LV->Hp->VK->Prop:=λd H Q=>∃(e C a:Uc) (f:List (Str×V)) (p:Uc) (c:List Uc) (b:Bool),d=[.ref e,.ref p]/\H e=some (XO e (.ref C) (some a))/\H a=some (.xd f)/\ExcIs K C/\H p=some (.tup (c.map V.ref))/\PySem.W.kitAny K (.ref C) (c.map Ay)=some b/\Q (.bl b) H
def S6:∀{b:List Uc} {us:LW},Vals (b.map V.ref) us->us=b.map Ay
 | [],us,h=>by cases h;rfl
 | a::r,us,h=>by
  cases h with
  | cons d c=>obtain rfl:_=Ay a:=d;rw[S6 c];rfl
def Zf9:S3 X (.builtin "isinstance") (Yt2 X.K):=by intro a s w H x y Q I r h;let(e,C,M,L,p,N,b,rfl,m,o,S,l,k,q):=h;let(u,v,rfl,f,d):=Zw1 r;obtain rfl:u=Ay e:=f;obtain rfl:v=Ay p:=d;let(B,D,F,J,_):=Bp I m o;let(j,g,((E,i,t,A),g1,g2,n,g3),G):=I.tuple (.of l);cases S6 g;dsimp only at g2 g3;subst g2 g3;show PySem.W.kia_tup (By S) I.kIn J g1 k (λz=>nomatch z) λc=>(.bl b,H,I.tok c,rfl,q)
def Ys2{K:Aa}{w:Vw}{d:D}{x:V}{t:String}(R:RS w M)(r:RD w d x)(h:tyD M d=some t):TyOf K w.H x (.type t):=by
 ext h tyD;split at h
 .cases h;cases Ye.mp r;show .non
 .cases h;cases Xz.mp r;show .bl _
 .cases h;cases Zk.mp r;show .int _
 .cases h;cases Zw.mp r;show .str _
 .cases h;let(a,b,rfl,q,_):=Yp.mp r;show .tup q
 .let(_,rfl):=Zr.mp r;split at h
  .rename_i e;cases h;let(b,q,_):=R.cell _ _ e;show .lst q
  .cases h
  .rename_i e;cases h;let(b,q,_):=R.cell _ _ e;show .dK q
  .cases h
  .cases h
  .cases h
 .cases h
def Za3:S3 X (.type "dict") (λxs H Q=>∃a kvs,xs=[V.ref a]/\H a=some (.dK kvs)/\∀p,H p=none->Q (.ref p) (upd H p (.dK kvs))):=by intro b s g H xs i Q I r h;let(a,kvs,rfl,e,q):=h;let(u,rfl,c):=Oa r;cases c;show Zz6 I (.inl e) λp j d f=>(.ref p,_,f,rfl,q p d)
def Z02{w:Vw}:∀{ps:KQ9} {vs:LV},RDs w (Sc ps) vs->∃qs,Fz w.K w.H vs qs/\RKV w ps qs
 | [],vs,h=>by
  cases vs with
  | nil=>show([],trivial,by ext RKV;rfl)
  | cons _ _=>have:=h.length;simp[Sc] at this
 | p::ps,vs,h=>by
  change RDs w (D.tup [kD p.1,p.2]::Sc ps) vs at h;ext h RDs;let(v,o,rfl,j,g):=h;let(t,q,rfl,l,k):=Yp.mp j;let(d,b,rfl,a,f):=rds2 k;let(qs,n,m):=Z02 g;have e:d=kV p.1:=by
   cases c:p.1 with
   | inl i=>rw[c] at a;show Zk.mp a
   | inr x=>rw[c] at a;show Zw.mp a
  subst e;show(#v[p.1,b]::qs,((t,rfl,.of l),n),by ext RKV;show(b,qs,rfl,f,m))
def Z43{w:Vw}:∀{ps:KQ9} {qs:List (Key×V)} {a:KQ9} {vs:List (Key×V)},RKV w ps qs->RKV w a vs->RKV w (ps.foldl (λm p=>putD m p.1 p.2) a) (qs.foldl (λm p=>putK m p.1 p.2) vs)
 | [],qs,a,vs,h,g=>by ext h RKV;subst h;show g
 | p::ps,qs,a,vs,h,g=>by ext h RKV;let(v,r,rfl,c,b):=h;rw[Le,Le];show Z43 (ps:=ps) (qs:=r) b (RKV.put (k:=p.1) c g)
def Ny:Bf->Bool
 | .dict1=>false
 | _=>true
def Zr9(m:X.K=w0.K)(b:Bf)(V:X.calm=true\/Ny b=true):S3 X (bfOf b).2 (rC w0 (bfD w0.K b)):=by
 intro c s j H F k Q I r h;let(w,M,Y,QD,rfl,L,R,o,g,a):=h;cases b with
 | len=>
  let(x,rfl,g2):=Tx g;clear g;have g:=g2;cases x with
  | ref n=>
   let(v,rfl,f):=rds1 o;let(_,rfl):=Zr.mp f;rcases g with⟨F,g1,g2⟩|⟨F,g1,g2⟩
   .let(_,i,d,e,_):=R.listL g1;rw[L,<-m] at d;show Q4 c s j w.H _ k Q I r (_,i,rfl,.inl d,a _ w _ M (Ext.refl w) R (Zk.mpr (by rw[e.length])) g2)
   .let(_,i,d,e):=R.dict g1;show Zj2 c s j w.H _ k Q I r (_,i,rfl,d,a _ w _ M (Ext.refl w) R (Zk.mpr (by rw[e.length])) g2)
  | tup l=>let(v,rfl,f):=rds1 o;let(p,i,rfl,d,e):=Yp.mp f;show Q4 c s j w.H _ k Q I r (_,i,rfl,.inr (.of d),a _ w _ M (Ext.refl w) R (Zk.mpr (by rw[e.length])) g)
  | str z=>let(v,rfl,f):=rds1 o;cases Zw.mp f;show E8 c s j w.H _ k Q I r (_,rfl,g.1,a _ w _ M (Ext.refl w) R (Zk.mpr rfl) g.2)
  | _=>show Az g
 | isinst=>
  let(x,y,rfl,g2):=Yh6 g;clear g;have g:=g2;let(v,u,rfl,f,G):=rds2 o;ext g isD;split at g
  .let(b,g1,g2,g3):=g;let(rfl,d,C,e,O):=Z05.mp f;cases Z45.mp G;rw[<-m] at g1 g2;show Z26 c s j w.H _ k Q I r (_,_,_,_,_,_,b,rfl,d,e,g1,λu J=>J,g2,a _ w _ M (Ext.refl w) R (Xz.mpr rfl) g3)
  .let(b,g1,g2,g3):=g;let(rfl,d,C,e,O):=Z05.mp f;cases Y68.mp G;rw[<-m] at g1 g2;show Z26 c s j w.H _ k Q I r (_,_,_,_,_,_,b,rfl,d,e,g1,λu J=>J,g2,a _ w _ M (Ext.refl w) R (Xz.mpr rfl) g3)
  .let(Z,b,rfl,g1,g2,g3):=g;let(rfl,d,C,e,O):=Z05.mp f;let(p,i,rfl,U,T):=Yp.mp G;cases Zi9 T;rw[<-m] at g1 g2;show Zf9 c s j w.H _ k Q I r (_,_,_,_,_,_,b,rfl,d,e,g1,U,g2,a _ w _ M (Ext.refl w) R (Xz.mpr rfl) g3)
  .let(t,b,g1,g2,g3):=g;cases Y68.mp G;rw[<-m] at g2;show Zx8 c s j w.H _ k Q I r (_,_,_,b,rfl,Ys2 R f g1,g2,a _ w _ M (Ext.refl w) R (Xz.mpr rfl) g3)
  .show g.elim
 | tuple1=>let(x,rfl,g2):=Tx g;clear g;have g:=g2;let(n,rfl,g2):=Xv g;clear g;have g:=g2;let(v,rfl,f):=rds1 o;let(_,rfl):=Zr.mp f;let(F,g1,g2):=g;let(_,i,d,e,_):=R.listL g1;rw[L,<-m] at d;show Jq c s j w.H _ k Q I r (_,i,rfl,.inl (d,λl E=>?_));let(B,A,q):=Rf R E e;show a _ _ _ _ B A q g2
 | dict1=>
  let(x,rfl,g2):=Tx g;clear g;have g:=g2;let(n,rfl,g2):=Xv g;clear g;have g:=g2;let(v,rfl,f):=rds1 o;let(_,rfl):=Zr.mp f;rcases g with⟨F,g1,g2⟩|⟨W,g1,g2,g3⟩
  .let(_,i,d,e):=R.dict g1;show Za3 c s j w.H _ k Q I r (_,i,rfl,d,λl E=>?_);let(B,A,q):=Nw R E e;show a _ _ _ _ B A q g2
  .let(_,i,d,e,_):=R.listL g1;let(S,N,P):=Z02 e;have D:=e.length;ext D Sc;rw[Al] at D;rw[L,<-m] at d N;show Z52 (V.resolve_right (by simp[Ny])) c s j w.H _ k Q I r (_,i,S,rfl,d,N,'o',λl E=>?_);let(B,A,q):=Nw R E (Z43 P (show RKV w [] [] by ext RKV;rfl));show a _ _ _ _ B A q g3
end
def mtT:Mt->String
 | .append | .pop0 | .extend | .popi=>"list"
def mtN:Mt->Str
 | .append=>"append" | .pop0=>"pop" | .extend=>"extend" | .popi=>"pop"
def mtI:Mt->String
 | .popi=>"list.pop" | .append=>"list.append" | .pop0=>"list.pop" | .extend=>"list.extend"
def Yl4:∀m:Mt,PlainAttrs (mtT m)
 | .append | .pop0 | .extend | .popi=>PySem.F.plainAttrs_list
def Zm4:∀m:Mt,Slot (mtT m) (mtN m) (mtI m)
 | .popi=>PySem.F.slot_list_pop | .append=>PySem.F.slot_list_append | .pop0=>PySem.F.slot_list_pop | .extend=>PySem.F.slot_list_extend
def Yp7:∀m:Mt,typeOf (.builtin (mtI m))=pure (.type "method_descriptor")
 | .popi=>PySem.F.type_list_pop | .append=>PySem.F.type_list_append | .pop0=>PySem.F.type_list_pop | .extend=>PySem.F.type_list_extend
def rM(w0:Vw)(m:Mt):V->LV->Hp->VK->Prop:=λx d H Q=>∃w M a b c,w.H=H/\w.K=w0.K/\RS w M/\RD w a x/\RDs w b d/\mtD m a b M c/\Aft w c Q
def Y08{w:Vw}{d:D}{x:V}(R:RS w M)(r:RD w d x)(h:mtK m d M):tyV w.K (mtT m) x w.H:=by
 have L:∀{n:Nat},RD w (.ref n) x->(Zg M n).isSome=true->tyV w.K "list" x w.H:=by intro n r h;let(_,rfl):=Zr.mp r;let(c,e):=Ku.mp h;let(_,a,b,_):=R.listL e;show .inl (rfl,a,b)
 have K:∀{n:Nat},RD w (.ref n) x->(Yk M n).isSome=true->tyV w.K "dict" x w.H:=by intro n r h;let(_,rfl):=Zr.mp r;let(c,e):=Ku.mp h;let(_,a,b,_):=R.dict e;show .inr (.inr (.inl (rfl,.inl (a,b))))
 have P:∀{n:Nat},RD w (.ref n) x->(B7 M n).isSome=true->tyV w.K "dict" x w.H:=by intro n r h;let(_,rfl):=Zr.mp r;let(c,e):=Ku.mp h;let(_,a,b,_):=R.dictP e;show .inr (.inr (.inl (rfl,.inr (a,b))))
 let(n,rfl,h):=Xv h;cases m with
 | _=>show L r h
def Zk3{j n:Nat}(h:j<n):seqIndex? (j:Int) n=some j:=by unfold seqIndex?;erw[show ¬((j:Int)<0) by lia,if_false];simp;lia
def RDs.eraseIdx{w:Vw}(r:RDs w xs vs)(j:Nat):RDs w (xs.eraseIdx j) (vs.eraseIdx j):=by rw[List.eraseIdx_eq_take_drop_succ,List.eraseIdx_eq_take_drop_succ];show(r.take _).append (r.drop _)
def RDs.dropLast{w:Vw}(r:RDs w xs vs):RDs w xs.dropLast vs.dropLast:=by rw[List.dropLast_eq_take,List.dropLast_eq_take,r.length];show r.take _
section
variable{X:Cx}{w0:Vw}
def Zt6(Y:X.K=w0.K)(V:X.A.units+64<cLine)(m:Mt):MtR X (mtI m) (rM w0 m):=by
 intro c s B H x S v C Q I D r h;let(w,M,dx,E,QD,rfl,Z,R,G,J,g,a):=h;let(n,rfl,g2):=Xv g;clear g;have g:=g2;cases m with
 | popi=>
  let(x,rfl,g2):=Tx g;clear g;have g:=g2;let(_,rfl):=Zr.mp G;let(y,rfl,u):=rds1 J;let(E,d,j,rfl,g1,g2,g3):=g;cases Zk.mp u;let(p,l,f,e):=R.list g1;let(z,F,L):=e.get g2;have O:j<l.length:=(Ai.mp F).1;have U:=(I.hok _ _ f).1;have W:((j:Nat):Int)<2 ^ 62:=by have:=Lf;lia
  let(i,o):=X9 R p f (e.eraseIdx j);show Zs5 c s B w.H _ _ v C Q I D r (_,l,_,j,z,rfl,rfl,f,'o','o',Zk3 O,F,a _ _ _ _ i o (L.ext i) g3)
 | append=>let(x,rfl,g2):=Tx g;clear g;have g:=g2;let(_,rfl):=Zr.mp G;let(y,rfl,u):=rds1 J;let(E,g1,g2,g3):=g;let(p,l,f,e):=R.list g1;let(i,o):=X9 R p f (e.append (RDs.cons u (RDs.nil w)));show Gd c s B w.H _ _ v C Q I D r (_,l,y,rfl,rfl,f,by rw[e.length];show g2,a _ _ _ _ i o (Ye.mpr rfl) g3)
 | pop0=>let(rfl,g2):=Zo4 g;clear g;have g:=g2;let(_,rfl):=Zr.mp G;cases rds0 J;let(E,d,g1,g2,g3):=g;let(p,l,f,e):=R.list g1;let(y,F,L):=e.get g2;let(i,o):=X9 R p f e.dropLast;show Ys1 c s B w.H _ _ v C Q I D r (_,l,y,rfl,rfl,f,by rw[e.length];show F,a _ _ _ _ i o (L.ext i) g3)
 | extend=>
  let(x,rfl,g2):=Tx g;clear g;have g:=g2;let(_,rfl):=Zr.mp G;let(y,rfl,u):=rds1 J;rcases Zy3 g with⟨T,rfl,g2⟩|⟨P,rfl,g2⟩
  .clear g;have g:=g2;let(_,rfl):=Zr.mp u;let(E,P,g1,g2,g4,g3):=g;let(p,l,f,e):=R.list g1;let(N,q,t,k):=R.list g2;let(i,o):=X9 R p f (e.append k);show Ze8 c s B w.H _ _ v C Q I D r (_,_,l,q,rfl,rfl,f,t,by rw[e.length,k.length];show g4,a _ _ _ _ i o (Ye.mpr rfl) g3)
  .clear g;have g:=g2;let(b,q,rfl,t,k):=Yp.mp u;let(E,g1,g4,g3):=g;let(p,l,f,e):=R.list g1;let(i,o):=X9 R p f (e.append k);show Z69 c s B w.H _ _ v C Q I D r (_,_,l,q,rfl,rfl,f,t,by rw[e.length,k.length];show g4,a _ _ _ _ i o (Ye.mpr rfl) g3)
end
def gF(w0:Vw)(g:LQ):TG:=λv f H Q=>∃w b M d e,StOk w0 w b M f H/\RD w d v/\tgD g d b e/\∀c a,REnv w a c->e a->Q c H
def gAll:LQ->TGs
 | []=>gNil
 | i::a=>Ym0 (Zh8 i) (gAll a)
def Z31{w:Vw}{H:Hp}{Q:L2.St->Hp->Prop}{QD:DEnv->Prop}(k:∀h b,REnv w b h->QD b->Q h H):∀(g:LQ) {f:LD} {vs:LV} {c:L2.St} {a:DEnv},RDs w f vs->f.length=g.length->REnv w a c->
  QD ((g.zip f).foldl (λc p=>c.set p.1 (some p.2)) a)->gAll g vs c H Q
 | [],f,vs,c,a,r,j,e,q=>by cases Lc.mp j;cases rds0 r;show(rfl,k _ _ e q)
 | i::g,f,vs,c,a,r,j,e,q=>by
  cases f with
  | nil=>simp at j
  | cons d f=>ext r RDs;let(v,l,rfl,n,m):=r;show(v,l,rfl,?_);change gAll g l (c.set i (some v)) H Q;show Z31 k g m ↥j (e.set i n) q
section
variable{X:Cx}{w0:Vw}
def PG.imp{t t':TG}(h:PG X e t)(k:∀v a H Q,t' v a H Q->t v a H Q):PG X e t':=λb s a H v u Q I r q=>h b s a H v u Q I r (k v a H Q q)
def Ym1{i:Nat}(h:PG X e (Zh8 i)):PG X e (gF w0 [i]):=PG.imp h λv b H Q zz=>by let(w,a,M,d,c,S,r,g,k):=zz;show k _ _ (S.env.set i r) g
def Y71{b:LQ}(l:2<=b.length)(h:PG X e (gTup X.K b.length (gAll b))):PG X e (gF w0 b):=PG.imp h λv m H Q zy2=>by
 let(w,i,M,d,n,S,r,g,k):=zy2;ext g tgD;split at g
 .simp at l
 .let(a,j,rfl,f,c):=Yp.mp r;let(g1,g2):=g;rw[S.heap] at f;show(a,j,rfl,.of f,by rw[c.length];show g1,Z31 k b c g1 S.env g2)
 .show g.elim
end
structure Ck where
 N:LS
 sc:Scope
 FN:LS
 GN:LS
 BN:LS
 loops:Bool
 calm:Bool
 tries:Bool
 raises:LQ
 cells:Bool
 own:LS
def Cy(scope:Scope):LS:=(scope.names.filter λy=>y.2== .cell).map (·.1)
def Ck.vis(k:Ck)(x:Str):Bool:=(k.sc.names.lookup x==some .local || k.sc.names.lookup x==some .cell || k.sc.names.lookup x==some .free)&&!(x==("__debug__":Str))&&!(x==("__classdict__":Str))
def Ck.glob(k:Ck)(x:Str):Bool:=k.sc.names.lookup x==some .globalImplicit&&!(x==("__debug__":Str))&&!(x==("__name__":Str))
def Ck.loc(k:Ck)(x:Str):Bool:=k.sc.names.lookup x==some .local
def Ck.locC(k:Ck)(x:Str):Bool:=k.loc x || ((k.cells || k.own.contains x)&&k.sc.names.lookup x==some .cell)
def Pw:Expr->Bool
 | .Call (.Name x _) [] [] _=>x !=("super":Str)
 | _=>true
def C7(x:Expr):Bool:=x.ctorIdx !=26
def Z80(x:Expr):Bool:=x.ctorIdx !=7
def Vk(x:Expr):Bool:=x.ctorIdx !=22
def isIn:Cm->Bool
 | .isin | .notin=>true
 | _=>false
def Y59(k:Ck):LQ->List Expr->Bool
 | [],[]=>true
 | i::a,.Name x _::b=>k.N[i]?==some x&&k.locC x&&Y59 k a b
 | _,_=>false
def O8(k:Ck)(a:LQ):Expr->Bool
 | .Name x _=>match a with
  | [i]=>k.N[i]?==some x&&k.locC x
  | _=>false
 | .Tuple b _ _=>k.calm&&decide (2<=a.length)&&Y59 k a b
 | _=>false
def itTg:It->Expr->Bool
 | .enm _,.Tuple ..=>true
 | .enm _,_=>false
 | _,_=>true
def Y2{c:Prop}[Decidable c]{F:c->Bool}(h:(if q:c then F q else false)=true):∃q:c,F q=true:=by
 by_cases q:c
 .rw[dif_pos q] at h;show(q,h)
 .rw[dif_neg q] at h;left
def Xl(a:Expr)(F:Str->Bool):Bool:=if q:a.ctorIdx=23 then Expr.Name.elim (motive_1:=λ_=>Bool) a q (λx _=>F x) else false
def Xs{a:Expr}{F:Str->Bool}(h:Xl a F=true):∃x p,a= .Name x p/\F x=true:=by let(q,h):=Y2 h;show Expr.Name.elim (motive_1:=λa=>∀q:a.ctorIdx=23,Expr.Name.elim (motive_1:=λ_=>Bool) a q (λx _=>F x)=true->∃x p,a= .Name x p/\F x=true) a q (λx p _ h=>(x,p,rfl,h)) q h
def Qz(a:Expr)(F:Const->Bool):Bool:=if q:a.ctorIdx=19 then Expr.Constant.elim (motive_1:=λ_=>Bool) a q (λv _ _=>F v) else false
def Wz{a:Expr}{F:Const->Bool}(h:Qz a F=true):∃v j p,a= .Constant v j p/\F v=true:=by let(q,h):=Y2 h;show Expr.Constant.elim (motive_1:=λa=>∀q:a.ctorIdx=19,Expr.Constant.elim (motive_1:=λ_=>Bool) a q (λv _ _=>F v)=true->∃v j p,a= .Constant v j p/\F v=true) a q (λv j p _ h=>(v,j,p,rfl,h)) q h
def Yk2(a:Expr)(F:Expr->Operator->Expr->Bool):Bool:=if q:a.ctorIdx=2 then Expr.BinOp.elim (motive_1:=λ_=>Bool) a q (λl o r _=>F l o r) else false
def Zh5{a:Expr}{F:Expr->Operator->Expr->Bool}(h:Yk2 a F=true):∃l o r p,a= .BinOp l o r p/\F l o r=true:=by let(q,h):=Y2 h;show Expr.BinOp.elim (motive_1:=λa=>∀q:a.ctorIdx=2,Expr.BinOp.elim (motive_1:=λ_=>Bool) a q (λl o r _=>F l o r)=true->∃l o r p,a= .BinOp l o r p/\F l o r=true) a q (λl o r p _ h=>(l,o,r,p,rfl,h)) q h
def onUn(a:Expr)(F:UnaryOp->Expr->Bool):Bool:=if q:a.ctorIdx=3 then Expr.UnaryOp.elim (motive_1:=λ_=>Bool) a q (λo l _=>F o l) else false
def Z46{a:Expr}{F:UnaryOp->Expr->Bool}(h:onUn a F=true):∃o l p,a= .UnaryOp o l p/\F o l=true:=by let(q,h):=Y2 h;show Expr.UnaryOp.elim (motive_1:=λa=>∀q:a.ctorIdx=3,Expr.UnaryOp.elim (motive_1:=λ_=>Bool) a q (λo l _=>F o l)=true->∃o l p,a= .UnaryOp o l p/\F o l=true) a q (λo l p _ h=>(o,l,p,rfl,h)) q h
def Yp6(a:Expr)(F:Expr->(List CmpOp)->(List Expr)->Bool):Bool:=if q:a.ctorIdx=15 then Expr.Compare.elim (motive_1:=λ_=>Bool) a q (λl c b _=>F l c b) else false
def Zl5{b:Expr}{F:Expr->(List CmpOp)->(List Expr)->Bool}(h:Yp6 b F=true):∃l os a p,b= .Compare l os a p/\F l os a=true:=by let(q,h):=Y2 h;show Expr.Compare.elim (motive_1:=λb=>∀q:b.ctorIdx=15,Expr.Compare.elim (motive_1:=λ_=>Bool) b q (λl os a _=>F l os a)=true->∃l os a p,b= .Compare l os a p/\F l os a=true) b q (λl os a p _ h=>(l,os,a,p,rfl,h)) q h
def Y29(a:Expr)(F:BoolOp->(List Expr)->Bool):Bool:=if q:a.ctorIdx=0 then Expr.BoolOp.elim (motive_1:=λ_=>Bool) a q (λo b _=>F o b) else false
def Z47{b:Expr}{F:BoolOp->(List Expr)->Bool}(h:Y29 b F=true):∃o a p,b= .BoolOp o a p/\F o a=true:=by let(q,h):=Y2 h;show Expr.BoolOp.elim (motive_1:=λb=>∀q:b.ctorIdx=0,Expr.BoolOp.elim (motive_1:=λ_=>Bool) b q (λo a _=>F o a)=true->∃o a p,b= .BoolOp o a p/\F o a=true) b q (λo a p _ h=>(o,a,p,rfl,h)) q h
def onIf(a:Expr)(F:Expr->Expr->Expr->Bool):Bool:=if q:a.ctorIdx=5 then Expr.IfExp.elim (motive_1:=λ_=>Bool) a q (λx l r _=>F x l r) else false
def Zq2{a:Expr}{F:Expr->Expr->Expr->Bool}(h:onIf a F=true):∃x l r p,a= .IfExp x l r p/\F x l r=true:=by let(q,h):=Y2 h;show Expr.IfExp.elim (motive_1:=λa=>∀q:a.ctorIdx=5,Expr.IfExp.elim (motive_1:=λ_=>Bool) a q (λx l r _=>F x l r)=true->∃x l r p,a= .IfExp x l r p/\F x l r=true) a q (λx l r p _ h=>(x,l,r,p,rfl,h)) q h
def Ys4(a:Expr)(F:(List Expr)->Bool):Bool:=if q:a.ctorIdx=24 then Expr.List.elim (motive_1:=λ_=>Bool) a q (λb _=>F b) else false
def Zn3{b:Expr}{F:(List Expr)->Bool}(h:Ys4 b F=true):∃a p,b= .List a p/\F a=true:=by let(q,h):=Y2 h;show Expr.List.elim (motive_1:=λb=>∀q:b.ctorIdx=24,Expr.List.elim (motive_1:=λ_=>Bool) b q (λa _=>F a)=true->∃a p,b= .List a p/\F a=true) b q (λa p _ h=>(a,p,rfl,h)) q h
def Y72(a:Expr)(F:(List Expr)->Bool):Bool:=if q:a.ctorIdx=25 then Expr.Tuple.elim (motive_1:=λ_=>Bool) a q (λb _ _=>F b) else false
def Ga{b:Expr}{F:(List Expr)->Bool}(h:Y72 b F=true):∃a j p,b= .Tuple a j p/\F a=true:=by let(q,h):=Y2 h;show Expr.Tuple.elim (motive_1:=λb=>∀q:b.ctorIdx=25,Expr.Tuple.elim (motive_1:=λ_=>Bool) b q (λa _ _=>F a)=true->∃a j p,b= .Tuple a j p/\F a=true) b q (λa j p _ h=>(a,j,p,rfl,h)) q h
def Ya1(a:Expr)(F:(List (Option Expr))->(List Expr)->Bool):Bool:=if q:a.ctorIdx=6 then Expr.Dict.elim (motive_1:=λ_=>Bool) a q (λc b _=>F c b) else false
def G6{a:Expr}{F:(List (Option Expr))->(List Expr)->Bool}(h:Ya1 a F=true):∃ks vs p,a= .Dict ks vs p/\F ks vs=true:=by let(q,h):=Y2 h;show Expr.Dict.elim (motive_1:=λa=>∀q:a.ctorIdx=6,Expr.Dict.elim (motive_1:=λ_=>Bool) a q (λks vs _=>F ks vs)=true->∃ks vs p,a= .Dict ks vs p/\F ks vs=true) a q (λks vs p _ h=>(ks,vs,p,rfl,h)) q h
def Zp1(a:Expr)(F:Expr->Expr->Bool):Bool:=if q:a.ctorIdx=21 then Expr.Subscript.elim (motive_1:=λ_=>Bool) a q (λl r _=>F l r) else false
def Si{a:Expr}{F:Expr->Expr->Bool}(h:Zp1 a F=true):∃l r p,a= .Subscript l r p/\F l r=true:=by let(q,h):=Y2 h;show Expr.Subscript.elim (motive_1:=λa=>∀q:a.ctorIdx=21,Expr.Subscript.elim (motive_1:=λ_=>Bool) a q (λl r _=>F l r)=true->∃l r p,a= .Subscript l r p/\F l r=true) a q (λl r p _ h=>(l,r,p,rfl,h)) q h
def Y60(a:Expr)(F:(Option Expr)->(Option Expr)->(Option Expr)->Bool):Bool:=if q:a.ctorIdx=26 then Expr.Slice.elim (motive_1:=λ_=>Bool) a q (λx y z _=>F x y z) else false
def G7{a:Expr}{F:(Option Expr)->(Option Expr)->(Option Expr)->Bool}(h:Y60 a F=true):∃x y z p,a= .Slice x y z p/\F x y z=true:=by let(q,h):=Y2 h;show Expr.Slice.elim (motive_1:=λa=>∀q:a.ctorIdx=26,Expr.Slice.elim (motive_1:=λ_=>Bool) a q (λx y z _=>F x y z)=true->∃x y z p,a= .Slice x y z p/\F x y z=true) a q (λx y z p _ h=>(x,y,z,p,rfl,h)) q h
def W4(b:Expr)(F:Expr->(List Expr)->(List Keyword)->Pos->Bool):Bool:=if q:b.ctorIdx=16 then Expr.Call.elim (motive_1:=λ_=>Bool) b q (λd c a p=>F d c a p) else false
def N7{d:Expr}{F:Expr->(List Expr)->(List Keyword)->Pos->Bool}(h:W4 d F=true):∃c b a p,d= .Call c b a p/\F c b a p=true:=by let(q,h):=Y2 h;show Expr.Call.elim (motive_1:=λd=>∀q:d.ctorIdx=16,Expr.Call.elim (motive_1:=λ_=>Bool) d q (λc b a p=>F c b a p)=true->∃c b a p,d= .Call c b a p/\F c b a p=true) d q (λc b a p _ h=>(c,b,a,p,rfl,h)) q h
def Fh(a:Expr)(F:Expr->Str->Pos->Bool):Bool:=if q:a.ctorIdx=20 then Expr.Attribute.elim (motive_1:=λ_=>Bool) a q (λl g p=>F l g p) else false
def Ol{a:Expr}{F:Expr->Str->Pos->Bool}(h:Fh a F=true):∃l g p,a= .Attribute l g p/\F l g p=true:=by let(q,h):=Y2 h;show Expr.Attribute.elim (motive_1:=λa=>∀q:a.ctorIdx=20,Expr.Attribute.elim (motive_1:=λ_=>Bool) a q (λl g p=>F l g p)=true->∃l g p,a= .Attribute l g p/\F l g p=true) a q (λl g p _ h=>(l,g,p,rfl,h)) q h
def onLC(c:Expr)(F:Expr->(List Comprehension)->Scope->Bool):Bool:=if q:c.ctorIdx=8 then Expr.ListComp.elim (motive_1:=λ_=>Bool) c q (λd b a _=>F d b a) else false
def Qi{c:Expr}{F:Expr->(List Comprehension)->Scope->Bool}(h:onLC c F=true):∃b a scope p,c= .ListComp b a scope p/\F b a scope=true:=by let(q,h):=Y2 h;show Expr.ListComp.elim (motive_1:=λc=>∀q:c.ctorIdx=8,Expr.ListComp.elim (motive_1:=λ_=>Bool) c q (λb a scope _=>F b a scope)=true->∃b a scope p,c= .ListComp b a scope p/\F b a scope=true) c q (λb a scope p _ h=>(b,a,scope,p,rfl,h)) q h
def on0{a:Type}(l:List a)(b:Bool):Bool:=match l with
 | []=>b
 | _::_=>false
def on1{a:Type}(l:List a)(F:a->Bool):Bool:=match l with
 | []=>false
 | x::r=>on0 r (F x)
def onC{a:Type}(l:List a)(F:a->List a->Bool):Bool:=match l with
 | []=>false
 | x::r=>F x r
def Tk{a:Type}{l:List a}{b:Bool}(h:on0 l b=true):l=[]/\b=true:=by
 cases l with
 | nil=>show(rfl,h)
 | cons _ _=>left
def Rr{a:Type}{l:List a}{F:a->Bool}(h:on1 l F=true):∃x,l=[x]/\F x=true:=by
 cases l with
 | nil=>left
 | cons x r=>let(rfl,h):=Tk h;show(x,rfl,h)
def Ya9{a:Type}{l:List a}{F:a->List a->Bool}(h:onC l F=true):∃x r,l=x::r/\F x r=true:=by
 cases l with
 | nil=>left
 | cons x r=>show(x,r,rfl,h)
def noO{a:Type}(o:Option a)(b:Bool):Bool:=match o with
 | none=>b
 | some _=>false
def Zm9{a:Type}{o:Option a}{b:Bool}(h:noO o b=true):o=none/\b=true:=by
 cases o with
 | none=>show(rfl,h)
 | some _=>left
def onZ(i:Int)(b:Bool):Bool:=match i with
 | .ofNat 0=>b
 | _=>false
def Zf7{i:Int}{b:Bool}(h:onZ i b=true):i=0/\b=true:=by
 rcases i with(_|n)|n
 .exact(rfl,h)
 .left
 .left
def soO{a:Type}(o:Option a)(F:a->Bool):Bool:=match o with
 | none=>false
 | some x=>F x
def Y56{a:Type}{o:Option a}{F:a->Bool}(h:soO o F=true):∃x,o=some x/\F x=true:=by
 cases o with
 | none=>left
 | some x=>show(x,rfl,h)
def Np{d:Expr}{F:Str->List Expr->Bool}(h:(W4 d λc a b _=>Xl c λx=>on0 b (F x a))=true):∃x p a q,d= .Call (.Name x p) a [] q/\F x a=true:=by let(c,a,b,q,k,g):=N7 h;let(x,p,j,f):=Xs g;let(i,e):=Tk f;show(x,p,a,q,by rw[k,j,i],e)
def T5{c:Expr}{F:Str->Expr->Bool}(h:(W4 c λf b a _=>Xl f λx=>on0 a (on1 b λl=>F x l))=true):∃x p l q,c= .Call (.Name x p) [l] [] q/\F x l=true:=by let(x,p,b,q,i,e):=Np h;let(l,g,d):=Rr e;show(x,p,l,q,by rw[i,g],d)
def Z30{g:Expr}{F:Expr->Str->Pos->List Expr->Pos->Bool}(h:(W4 g λf b e c=>Fh f λl a d=>on0 e (F l a d b c))=true):∃l a d b c,g= .Call (.Attribute l a d) b [] c/\F l a d b c=true:=by let(f,b,e,c,o,k):=N7 h;let(l,a,d,n,j):=Ol k;let(m,i):=Tk j;show(l,a,d,b,c,by rw[o,n,m],i)
mutual
noncomputable def chkE(k:Ck):E->Expr->Bool
 | .var i,d=>Xl d λx=>k.N[i]?==some x&&k.vis x
 | .int i,d=>Qz d λv=>match v with
  | .int j=>i==j
  | _=>false
 | .bl b,d=>Qz d λv=>match v with
  | .bool c=>b==c
  | _=>false
 | .non,d=>Qz d λv=>match v with
  | .none=>true
  | _=>false
 | .str x,d=>Qz d λv=>match v with
  | .str y=>x==y
  | _=>false
 | .ty t,d=>Xl d λx=>x==Str.ofString (Yo t)&&k.glob x&&k.BN.contains x
 | .glb g,d=>Xl d λx=>k.GN[g]?==some x&&k.glob x
 | .bin D a b,d=>Yk2 d λl o r=>o==opOf D&&chkE k a l&&chkE k b r
 | .neg a,d=>onUn d λo l=>o== .USub&&chkE k a l
 | .not a,d=>onUn d λo l=>o== .Not&&chkE k a l
 | .cmp D a b,d=>Yp6 d λl S R=>on1 S λo=>on1 R λr=>o==cmOf D&&(!isIn D || Z80 r)&&chkE k a l&&chkE k b r
 | .bop b s,d=>Y29 d λo p=>o==(if b then .And else .Or)&&Sr k s p
 | .ife t a b,d=>onIf d λx l r=>chkE k t x&&chkE k a l&&chkE k b r&&noIf t
 | .lst s,d=>Ys4 d λp=>Sr k s p
 | .tup s,d=>Y72 d λp=>Sr k s p
 | .dict0,d=>Ya1 d λI F=>on0 I (on0 F true)
 | .dictT,d=>Ya1 d λI F=>on0 I (on0 F true)
 | .ix a b,d=>Zp1 d λl r=>C7 r&&chkE k a l&&chkE k b r
 | .sl a H K,d=>Zp1 d λl r=>Y60 r λx y z=>noO z (chkE k a l&&chkO k H x&&chkO k K y)
 | .slW a H K,d=>Zp1 d λl r=>Y60 r λx y z=>noO z (chkE k a l&&chkO k H x&&chkO k K y)
 | .lrev a,d=>W4 d λq p n _=>Xl q λx=>on0 n (on1 p λW=>W4 W λL G A _=>Xl L λy=>on0 A (on1 G λl=>k.calm&&x==("list":Str)&&y==("reversed":Str)&&k.glob x&&k.glob y&&k.BN.contains x&&k.BN.contains y&&Vk l&&chkE k a l))
 | .anyf a,d=>W4 d λq p n _=>Xl q λx=>on0 n (on1 p λl=>k.calm&&x==("any":Str)&&k.glob x&&k.BN.contains x&&Vk l&&chkE k a l)
 | .call f s,d=>W4 d λq p n _=>Xl q λx=>on0 n (k.calm&&(k.FN[f]?==some x&&(mOf x).isNone)&&k.glob x&&Sr k s p)
 | .bf b s,d=>W4 d λq p n _=>Xl q λx=>on0 n (onC p λl p=>(k.calm || Ny b)&&x==(bfOf b).1&&k.glob x&&k.BN.contains x&&Sr k s (l::p))
 | .mt m o s,d=>W4 d λq p n M=>Fh q λl w O=>on0 n (w==mtN m&&Pw l&&O.endLine==M.line&&decide (p.length<30)&&chkE k o l&&Sr k s p)
 | .mkO g a,d=>W4 d λq p n _=>Xl q λx=>on0 n (on1 p λl=>k.calm&&(k.GN[g]?==some x&&x==oN)&&k.glob x&&Vk l&&chkE k a l)
 | .meO g m o s,d=>W4 d λq p n M=>Fh q λl w O=>on0 n (k.calm&&k.GN[g]?==some oN&&soO (k.FN[m]?) (λy=>mOf y==some w)&&(w !="line"&&w !="lists"&&w !="goings")&&Pw l&&O.endLine==M.line&&decide (p.length<30)&&chkE k o l&&Sr k s p)
 | .fld o f,d=>Fh d λl g _=>f==g&&Pw l&&chkE k o l
 | .comp C T Q P V e,d=>onLC d λU B h=>on1 B λg=>match g with
  | (t,u,J,X)=>onZ X (k.calm&&O5 k.sc k.N C T h&&Z80 u&&Yc0 k P u&&decide C.Nodup&&
   O8 {k with N:=C,sc:=V4 h k.sc,cells:=false,own:=Cy h,tries:=false,raises:=[]} Q t&&chkC {k with N:=C,sc:=V4 h k.sc,cells:=false,own:=Cy h,tries:=false,raises:=[]} V J&&chkE {k with N:=C,sc:=V4 h k.sc,cells:=false,own:=Cy h,tries:=false,raises:=[]} e U&&itTg P t)
noncomputable def Sr(k:Ck):Es->List Expr->Bool
 | .nil,[]=>true
 | .cons e r,x::a=>chkE k e x&&Vk x&&Sr k r a
 | _,_=>false
noncomputable def chkO(k:Ck):Eo->Option Expr->Bool
 | .no,none=>true
 | .yes e,some x=>chkE k e x
 | _,_=>false
noncomputable def chkC(k:Ck):Eo->List Expr->Bool
 | .no,[]=>true
 | .yes e,[x]=>chkE k e x&&noIf e
 | _,_=>false
noncomputable def Yc0(k:Ck):It->Expr->Bool
 | .seq e,x=>chkE k e x
 | .rng1 a,f=>W4 f λd c b _=>Xl d λx=>on0 b (on1 c λl=>x==("range":Str)&&k.glob x&&k.BN.contains x&&Vk l&&chkE k a l)
 | .enm e,f=>W4 f λd c b _=>Xl d λx=>on0 b (on1 c λl=>x==("enumerate":Str)&&k.glob x&&k.BN.contains x&&Vk l&&chkE k e l)
noncomputable def noIf:E->Bool
 | .ife _ _ _=>false
 | .not a=>noIf a
 | .bop _ b=>Z94 b
 | _=>true
noncomputable def Z94:Es->Bool
 | .nil=>true
 | .cons e r=>noIf e&&Z94 r
end
def At(K:Aa)(mg:Str->Option Ua)(x:Str)(f:Uc):Prop:=match mOf x with
 | none=>mg x=↑f/\Hg K (.ref f)=true
 | some a=>∀C,mg oN=↑C->Cls K C/\Meth K C a f
def Mko(P:Ud)(w:Ue)(K:Aa)(mg:Str->Option Ua)(base:Uf):Prop:=∀C,mg oN=↑C->∃(f:Uc) (a:FuncData),Mk K C f/\FnOk P w K mg base (CX1 P w) 1 f a ["self","line"] (Zg7 K)/\Wt K a ["self","line"] []
def Zv1(X:Cx)(x:Str)(sp:DSp):Prop:=
 ∃(d:Nat) (f:Uc) (e:FuncData) (c:LS) (g:LW) (b:LV) (h:LD) (a:DSp),FnOk X.prog X.w X.K X.mg X.base (CX1 X.prog X.w) d f e c (spF X.K a)/\Room d X.A/\At X.K X.mg x f/\
  Wt X.K e c g/\Vals b g/\(∀w:Vw,w.K=X.K->RDs w h b)/\∀i M Q Z,sp i M Q Z->a (i++h) M Q Z
structure Good(c:Cfg)(k:Ck)(Z:DX)(w0:Vw)(X:Cx):Prop where
 hK:X.K=c.K
 wK:w0.K=c.K
 N:X.N=k.N
 nd:X.N.Nodup
 sc:X.env.scope=k.sc
 calm:k.calm=true->X.calm=true
 units:X.A.units+64<cLine
 fns:k.calm=true->∀(f:Nat) (x:Str) (sp:DSp),k.FN[f]?=some x->c.Γ[f]?=some sp->Zv1 X x sp
 flen:k.FN.length=c.Γ.length
 glb:∀(g:Nat) (x:Str) (d:D),k.GN[g]?=some x->c.G[g]?=some d->∃v u,X.mg x=some u/\RelV v u/\∀w:Vw,w.K=X.K->RD w d v
 blt:∀x,x∈k.BN->X.mg x=none
 exc:∃E,Ry (CX1 X.prog X.w) X E/\∀cls dd H',xkOf w0 Z cls dd H'->E cls dd H'
 stk:k.tries=true->X.stack=X.env::X.outer/\X.env.frame=some X.env.locals
 po:k.loops=true->PassesOwn (model X.prog X.w) X.A X.env X.xe
 fnc:k.cells=true->∀x,X.fn x=true
 fno:∀x,x∈k.own->X.fn x=true
 mko:k.calm=true->Mko X.prog X.w X.K X.mg X.base/\Room 2 X.A
def Ef{w c:Vw}{a:Ua}{d:Option Uc}(x:Ext w c)(h:xkOf c Z a d H'):xkOf w Z a d H':=by let(C,l,r,e,b,M,k,j,i,g,f):=h;show(C,l,r,e,b,M,k,j,i,x.trans g,f)
def ttD(f:DE):DT:=λc M Q=>f c M λx a=>truD a x λb=>Q b a
section
variable{c:Cfg}{k:Ck}{Z:DX}{w0:Vw}{X:Cx}
def Good.gl(G:Good c k Z w0 X){x:Str}(h:k.glob x=true):Gl X x/\(x==("__debug__":Str))=false/\x≠"__name__":=by ext h Ck.glob;erw[Bz9,beq_iff_eq,Bool.not_eq_true',beq_eq_false_iff_ne] at h;show(?_,↥h.1.2,h.2);unfold Gl Env.kindOf;rw[G.sc];show h.1.1
def Good.vis(G:Good c k Z w0 X){x:Str}(h:k.vis x=true):Vis X.env.scope x/\(x==("__debug__":Str))=false/\(x==("__classdict__":Str))=false:=by
 ext h Ck.vis;erw[Bz9,beq_iff_eq,Bool.not_eq_true',Bool.or_eq_true] at h;show(?_,h.1.2,h.2);ext Vis;rw[G.sc];rcases h.1.1 with(q|q)|q
 .show .inl q
 .show .inr (.inl q)
 .show .inr (.inr q)
def Good.locC(G:Good c k Z w0 X){x:Str}(h:k.locC x=true):Loc X.env.scope x/\(X.fn x=true\/X.env.scope.names.lookup x=some .local):=by
 unfold Ck.locC Ck.loc at h;rw[Bool.or_eq_true,Bz9] at h;rcases h with h|⟨h1,h2⟩
 .have a:X.env.scope.names.lookup x=some .local:=by rw[G.sc];show Kf h
  show(.inl a,.inr a)
 .refine(.inr (by rw[G.sc];show Kf h2),.inl ?_);rw[Bool.or_eq_true,Hn] at h1;rcases h1 with z|z
  .show G.fnc z x
  .show G.fno x z
def Good.eK(G:Good c k Z w0 X):X.K=w0.K:=G.hK.trans G.wK.symm
def StOk.K{w w0:Vw}{a:DEnv}{M:Z3}{b:L2.St}{H:Hp}(S:StOk w0 w a M b H):w.K=w0.K:=S.ext.K
def Y4{f:DE}{d:L2.St}{w:Vw}{b:DEnv}(S:StOk w0 w b M d H)(h:f b M QD)(a:Aft w QD Q):tF w0 f d H Q:=(w,b,M,QD,S,h,a)
def Wo{l:Expr}{a:Str}(h:Pw l=true):attributeBase l a env (eval l env)=eval l env:=by
 cases l with
 | Call f b c p=>
  cases f with
  | Name id q=>
   cases b with
   | nil=>
    cases c with
    | nil=>show nc (by rw[show(id !=("super":Str))=true from h];rfl)
    | cons _ _=>rfl
   | cons _ _=>rfl
  | _=>rfl
 | _=>rfl
def Zu{x:Expr}(h:Vk x=true):starEach (x::xs) env=#v[false,eval x env]::starEach xs env:=by cases x<;>first | rfl | left
def W2{k:Ck}:∀(es:Es) (xs:List Expr),Sr k es xs=true->(starEach xs env).all (λp=> !p.1)=true
 | .nil,[],_=>rfl
 | .nil,_::_,h=>absurd h Bf9
 | .cons e r,[],h=>absurd h Bf9
 | .cons e r,x::xs,h=>by change (_&&_)=true at h;erw[Bz9] at h;rw[Zu h.1.2];erw[Ic,Bool.not_false,Bool.true_and];show W2 r xs h.2
def Qo{l:List (Bool×Sem Ua)}(h:l.all (λp=> !p.1)=true):(backTo pos l).any (·.1)=false:=by
 induction l with
 | nil=>rfl
 | cons p r a=>erw[Ic,Bz9,Bool.not_eq_true'] at h;show(p.1 || (backTo pos r).any (·.1))=false;rw[h.1,a h.2];rfl
def Bt{l:List (Bool×Sem Ua)}(h:l.all (λp=> !p.1)=true):(backTo pos l).all (λx=> !x.1)=true:=by
 induction l with
 | nil=>rfl
 | cons p r a=>erw[Ic,Bz9] at h;show((!p.1)&&(backTo pos r).all (λx=> !x.1))=true;rw[h.1,a h.2];rfl
def Yv7{f:DE}{i:Expr}(G:Good c k Z w0 X)(h:PE X i (tF w0 f))(p:∀e,isTrue i X.env e=(do let v <-e;standAt i.pos;holding [v] (truthy v))):PT X i (tFT w0 (ttD f)):=by show PT.imp (Zv3 h p) λt H Q zz=>?_;let(w,j,M,u,S,g,a):=zz;show Y4 S g λv l d s x r o q=>?_;let(b,n,m):=Sz (K:=X.K) (by rw[x.K,S.K,G.eK]) r o q;show(b,n,a b l s x r m)
def Yd3{f:DE}{i:Expr}(h:PT X i (Yk6 (tF w0 f)))(m:∀e M QD,f e M QD->f e M λd M'=>(∃b,d= .bl b)/\QD d M'):PT X i (tFT w0 (ttD f)):=by show PT.imp h λn H Q zz=>?_;let(w,e,M,QD,S,g,a):=zz;show Y4 S (m _ _ _ g) λv j d M' x r l q=>?_;let((b,rfl),q):=q;cases Xz.mp l;show(b,rfl,a b j M' x r q)
def Zg2{l j:DE}{g:D->D->Z3->DK->Prop}{i:L2.St}(h:tF w0 (λb M QD=>l b M λx m=>j b m λy f=>g x y f QD) i H Q):tOp (rF w0 g) (tF w0 l) (tF w0 j) i H Q:=by let(w,b,M,QD,S,g0,a):=h;show Y4 S g0 λx z v m e r p t=>?_;show Y4 (S.next e r) t λy n u f d q o s=>?_;show(n,f,v,u,QD,rfl,(S.ext.trans e).trans d,q,p.ext d,o,s,a.ext (e.trans d))
def Gb{o n:DE}{g:Z3->D->D->(Bool->Prop)->Prop}(h:tF w0 (λd M QD=>o d M λx p=>n d p λy e=>g e x y λb=>QD (.bl b) e) j H Q):tOp (rB w0 g) (tF w0 o) (tF w0 n) j H Q:=by let(w,d,M,QD,S,g0,a):=h;show Y4 S g0 λx B A p i s r u=>?_;show Y4 (S.next i s) u λy l z e f m q t=>?_;show(l,e,A,z,_,rfl,((S.ext.trans i).trans f).K,m,r.ext f,q,t,λb v=>a _ l _ e (i.trans f) m (Xz.mpr rfl) v)
def Yf7{a:Expr}{i:TE}(o:PE X a i):PE X (.UnaryOp .Not a pos) (λe H Q=>i e H λx f=>∃b,TruV X.K x f b/\Q (.bl (!b)) f):=by intro d s e H Q I h;show UnaryOp_ (thn (o d s e H _ I h) λv j zz=>?_);let(x,f,q,l,n):=zz;show not_of (thn (Bu d j e f x v (λb g=>Q (.bl (!b)) g) q l n) λb r zz=>by let(g,p,m):=zz;show(.bl (!b),g,p,rfl,m))
def Yi3(t:Ty):bootBuiltins (Str.ofString (Yo t))=some (.type (Yo t)):=by
 cases t
 .show boot_int
 .show boot_str
 .show boot_bool
 .show boot_list
 .show boot_tuple
 .show boot_dict
 .change bootBuiltins "ValueError"=some (.type "ValueError")
  decide+kernel
def Ci:bootBuiltins "sorted"=some (.builtin "sorted"):='k'
def J7:bootBuiltins "reversed"=some (.type "reversed"):='k'
def Zq6:bootBuiltins "any"=some (.builtin "any"):='k'
def Yg6(b:Bf):bootBuiltins (bfOf b).1=some (bfOf b).2:=by cases b<;>first | show PySem.boot_len | show boot_isinstance | show PyProof.Rows.boot_min | show PyProof.Rows.boot_max | show boot_list | show boot_tuple | show boot_dict | show boot_str | show Ci | show boot_int
end
def JOk(c:Vw)(J:L2.It)(own:Own)(xs:LD):Prop:=∀w M,Ext c w->RS w M->J3 own xs M->∀i:Nat,
 (∀d,xs[i]?=some d->J.go i w.H/\∀x b,J.yld i w.H x b->∃a,a.H=b/\Ext w a/\RS a M/\RD a d x)/\(xs.length<=i->J.stop i w.H)
def iF(w0:Vw)(f:DEnv->Z3->(Own->LD->Z3->Prop)->Prop):TI:=λh H R=>∃w a M e,StOk w0 w a M h H/\f a M e/\
 ∀J c b d g,Ext w c->RS c g->JOk c J b d->e b d g->R J c.H
section
variable{c:Cfg}{k:Ck}{Z:DX}{w0:Vw}{X:Cx}
def PI.imp{d it:Expr}{t t':TI}(h:PI X d it t)(q:∀a H R,t' a H R->t a H R):PI X d it t':=λb s a H R I z=>h b s a H R I (q a H R z)
def Yn3{w l:Expr}(B:PE X l r):PI X w l (λm H R=>r m H λx g=>(∃a,x= .ref a/\(∃xs,SqL X.K g a xs)/\R (Itl X.K a) g)\/∃a,x= .ref a/\(∃xs,SqT X.K g a xs)/\R (Itt X.K a) g):=by
 intro f s m H R I h;show thn (B f s m H _ I h) λv d zz=>?_;let(x,g,i,t,z):=zz;have u:∀b∈[d⁻¹],FpOk X f g b:=λb C=>by
  have e:b=d⁻¹:=by simpa using C
  subst e;show i.fpOk (na _) (i.hok.fresh (na _))
 rcases z with⟨a,e,⟨xs,n⟩,q⟩|⟨a,e,⟨xs,n⟩,q⟩
 .subst e;cases t;let(j,y,p,A):=i.list n;show wpAny_pyIter_list p.isList ?_;show(d⁻¹,[d⁻¹],_,_,g,rfl,i.kept (t':=d.toks) λb o e=>Ap _ e,Zj4 a _,(_,Di _ rfl,rfl,rfl),u,q)
 .subst e;cases t;let(j,y,p,A):=i.tuple n;show wpAny_pyIter_tuple (show d.heap.IsTuple a j.toArray from p) ?_;show(d⁻¹,[d⁻¹],_,_,g,rfl,i.kept (t':=d.toks) λb o e=>Ap _ e,Z70 a _,(_,Di _ rfl,rfl,rfl),u,q)
def Zu7{a:Vw}{n:Nat}(p:X.K=a.K)(m:n<a.n):JOk a (Itl X.K (a.μ n)) (.lst n) xs:=by intro w M x R l i;let(_,f,b,h,_):=R.listL l;rw[x.μ n m,x.K,<-p] at b;show(λd e=>?_,λo=>(f,b,by rw[h.length];show o));let(v,g,j):=h.get e;show((f,v,b,g),λy s (r,q)=>(w,r.symm,Ext.refl w,R,?_));have:=q f b;rw[g] at this;cases this;show j
def Zq1{a:Vw}{n:Nat}(r:X.K=a.K)(q:n<a.n):JOk a (Ite X.K (a.μ n)) (.enm n) xs:=by intro w M x R g i;let(E,g,rfl):=g;let(_,f,b,l,_):=R.listL g;rw[x.μ n q,x.K,<-r] at b;show(λd e=>?_,λh=>(f,b,by rw[l.length];ext h F7;rw[List.length_mapIdx] at h;show h));ext e F7;rw[List.getElem?_mapIdx,Lh] at e;let(d,e,rfl):=e;let(v,j,m):=l.get e;show((f,v,b,j),λy F zz=>?_);let(p,u,o,z,t,s):=zz;have:=s f b;rw[j] at this;cases this;subst z t;let(C,B,A):=Rf R o (RDs.cons (Zk.mpr (rfl:V.int (i:Int)=_)) (RDs.cons m (RDs.nil w)));show(_,rfl,C,B,A)
def Zp4{b:Vw}{a:Uc}(n:X.K=b.K)(h:SqT b.K b.H a vs)(r:RDs b xs vs):JOk b (Itt X.K a) .no xs:=by intro w M x R q i;have f:=x.sqT h;rw[x.K,<-n] at f;have j:=r.ext x;show(λd e=>?_,λm=>(vs,f,by rw[j.length];show m));let(v,g,l):=j.get e;show((vs,v,f,g),λy s (p,o)=>(w,p.symm,Ext.refl w,R,?_));have:=o vs f;rw[g] at this;cases this;show l
def Y78{a:Vw}{lo:Int}{n:Nat}:JOk a (Itr lo n) .no (Ri lo n):=by
 intro w M x R q i;ext Ri;show(λd e=>?_,λb=>?_)
 .rw[Dj,Lh] at e;let(j,m,rfl):=e;let(l,h):=Ai.mp m;have f:j=i:=by simpa using h.symm
  subst f;have g:j<n:=by simpa using l
  show(g,λy r zz=>by let(p,o):=zz;show(w,p.symm,Ext.refl w,R,by rw[o];show Zk.mpr rfl))
 .have:n<=i:=by simpa using b
  show this
def Ze5{a:LS}{cl:List (Str×Uc)}{s:Ub}:(cxC X a scope cl C fp pins s H).env.scope=V4 scope X.env.scope:=rfl
def Good.block(G:Good c k Z w0 X)(d:k.calm=true)(p:j.Nodup)(cl:List (Str×Uc))(C:Uc)(fp:List Uc)(pins:PLO)(s:Ub)(H:Hp):
  Good c {k with N:=j,sc:=V4 scope k.sc,cells:=false,own:=Cy scope,tries:=false,raises:=[]} noX w0 (cxC X j scope cl C fp pins s H) where
 hK:=G.hK
 wK:=G.wK
 N:=rfl
 nd:=p
 sc:=by rw[Ze5,G.sc]
 calm:=λ_=>G.calm d
 units:=G.units
 fns:=λ_ f x l g e=>by let(n,f,q,m,r,i,t,a,h):=G.fns d f x l g e;show(n,f,q,m,r,i,t,a,h)
 flen:=G.flen
 glb:=G.glb
 blt:=G.blt
 exc:=(E0,λ_ _ _ _ _ _ _ h=>by
  let(_,_,_,_,_,_,_,_,_,_,_,_,_,_,_,h):=h;show h.elim,λu v w h=>by
  let(_,_,_,_,_,_,_,_,_,_,_,_,_,h):=h;show h.elim)
 stk:=λh=>by cases h
 po:=λ_=>PassesOwn.never
 fnc:=λh=>by cases h
 mko:=λ_=>G.mko d
 fno:=λx b=>by show(scope.names.any λy=>y.1==x&&y.2==Fd)=true;have b:x∈(scope.names.filter λy=>y.2==Fd).map (·.1):=b;let(y,o,rfl):=List.mem_map.mp b;let(g,e):=List.mem_filter.mp o;rw[Hz];show(y,g,by rw[beq_self_eq_true,Bool.true_and];show e)
def Good.tgs(G:Good c k Z w0 X):∀(b:LQ) (es:List Expr),Y59 k b es=true->PGs X es (gAll b)/\(assignEach es X.env).length=b.length/\(assignEach es X.env).findIdx? (·.1)=none:=by
 have d:∀(i:Nat) (x:Str) (a:Pos),k.N[i]?=some x->k.locC x=true->PG X (.Name x a) (Zh8 i):=λi x a g f=>by let(l,j):=G.locC f;show Zc5 G.nd (by rw[G.N];show g) l j
 intro b;induction b with
 | nil=>
  intro es h;cases es with
  | nil=>show(Y64,rfl,rfl)
  | cons e es=>left
 | cons i b m=>
  intro es h;cases es with
  | nil=>left
  | cons e es=>
   cases e with
   | Name x a=>
    change (_&&_)=true at h;erw[Bz9,beq_iff_eq] at h;let(g,f,n):=m es h.2;show(Y02 (d i x a h.1.1 h.1.2) g rfl,?_,?_)
    .show(assignEach es X.env).length+1=b.length+1;rw[f]
    .show(#v[false,_]::assignEach es X.env).findIdx? (·.1)=none;rw[List.findIdx?_cons,n];rfl
   | _=>left
def Good.tgt(G:Good c k Z w0 X):∀(d:LQ) (e:Expr),O8 k d e=true->PG X e (gF w0 d):=by
 have f:∀(i:Nat) (x:Str) (a:Pos),k.N[i]?=some x->k.locC x=true->PG X (.Name x a) (Zh8 i):=λi x a j g=>by let(m,l):=G.locC g;show Zc5 G.nd (by rw[G.N];show j) m l
 have b:=G.tgs;intro d e h;cases e with
 | Name x a=>
  match d,h with
  | [i],h=>change (_&&_)=true at h;erw[Bz9,beq_iff_eq] at h;show Ym1 (f _ x a h.1 h.2)
  | [],h=>left
  | _::_::_,h=>left
 | Tuple o p a=>change (_&&_)=true at h;erw[Bz9,decide_eq_true_eq] at h;let(j,g,n):=b d o h.2;show Y71 h.1.2 (Yo3 (G.calm h.1.1) j g n)
 | _=>left
def Y63{w:Vw}{b:List (Option Nat)}{a:DEnv}{g:L2.St}(h:REnv w a g):REnv w (capD b a) (Qg b g):=by
 show(by unfold capD Qg;simp,λi d e=>?_);ext e capD;ext Qg;rw[Dj] at e |-;cases l:b[i]? with
 | none=>rw[l] at e;cases e
 | some o=>
  rw[l] at e;erw[Option.map_some,Option.some.injEq] at e |-;cases o with
  | none=>cases e
  | some j=>
   erw[Kw] at e |-;cases f:a[j]? with
   | none=>rw[f] at e;cases e
   | some z=>rw[f] at e;have p:z=some d:=e;subst p;let(v,n,m):=h.2 j d f;show(v,by rw[n];rfl,m)
def Zx5{f:Vw}{J:L2.It}{own:Own}{xs:LD}{V:LQ}{cd:DT}{el:DE}{o:Z3}{H1:Hp}{u:DEnv}{σ:L2.St}{QD:Z3->Prop}{Q:VK}(e0:Ext w0 f)(hH:f.H=H1)(R1:RS f o)(env:REnv f u σ)(jk:JOk f J own xs)
  (h:Gx own xs V cd el o.length xs u (o++[.lst []]) QD) (a:Aft f (λd M=>d= .ref o.length/\QD M) Q):∀p,H1 p=none->∃W:Nat->Nat->L2.St->Hp->Prop,(∃m,W 0 m σ (upd H1 p (.lst [])))/\
   ∀i m g t,W i m g t->(J.stop i t/\Q (.ref p) t)\/(J.go i t/\∀x H',J.yld i t x H'->gF w0 V x g H' λl H2=>tFT w0 cd l H2 λb H3=>if b=true then tF w0 el l H3 λy H4=>∃s,H4 p=some (.lst s)/\s.length<sizeLine/\
    ∃K,K<m/\W (i+1) K l (upd H4 p (.lst (s++[y]))) else ∃K,K<m/\W (i+1) K l H3):=by
 intro p hp;subst hH;let(U,R2,rz):=Xn (xs:=[]) R1 hp (RDs.nil f);have hz:o.length< (f.push p (.lst [])).n/\p=(f.push p (.lst [])).μ o.length:=by let(F,O):=Zr.mp rz;show(F,by injection O)
 show(λi m g t=>∃w q M,StOk w0 w q M g t/\Ext (f.push p (.lst [])) w/\i<=xs.length/\m=xs.length - i/\Gx own xs V cd el o.length (xs.drop i) q M QD,(xs.length,f.push p (.lst []),u,_,(rfl,e0.trans U,R2,env.ext U),Ext.refl _,nj _,rfl,h),?_);rintro i m g t ⟨w,q,M,S,G,hi,rfl,E⟩;have I:Ext f w:=U.trans G;have L:w.μ o.length=p:=(G.μ _ hz.1).trans hz.2.symm;have N:o.length<w.n:=ng hz.1 G.n;have B:∀C:J3 own xs M,_:=λC=>jk w M I S.rs C i;rw[S.heap] at B;by_cases r:i<xs.length
 .rw[Hv r] at E;let(C,E):=E;let(j1,j2):=(B C).1 xs[i] (Ah r);show .inr (j1,λx H' hy=>?_);let(w3,rfl,A,R3,z0):=j2 x H' hy;show(w3,q,M,xs[i],_,(rfl,S.ext.trans A,R3,S.env.ext A),z0,E,λl j e q2=>?_);show(w3,j,M,_,(rfl,S.ext.trans A,R3,e),q2,λb w4 M4 v R4 T=>?_);cases b with
  | true=>rw[nc rfl] at T |-;show Y4 (rfl,(S.ext.trans A).trans v,R4,e.ext v) T λy R dy M5 x5 R5 Y q5=>?_;let(s,g1,g2,g3):=q5;let(hn,vs,F,O):=R5.list g1;have z:Ext w R:=(A.trans v).trans x5;have y0:R.μ o.length=p:=(z.μ _ N).trans L;let(P,y2):=X9 R5 hn F (O.append (RDs.cons Y (RDs.nil R)));rw[y0] at F P y2;show(vs,F,by rw[O.length];show g2,xs.length - (i+1),'o',R.alloc p (.lst (vs++[y])),j,_,(rfl,(S.ext.trans z).trans P,y2,(e.ext (v.trans x5)).ext P),(G.trans z).trans P,r,rfl,g3)
  | false=>rw[nb Bf9] at T |-;show(xs.length - (i+1),'o',w4,j,M4,(rfl,(S.ext.trans A).trans v,R4,e.ext v),(G.trans A).trans v,r,rfl,T)
 .rw[List.drop_eq_nil_of_le 'o'] at E;let(C,hq):=E;show .inl ((B C).2 'o',?_);have:=a (.ref p) w (.ref o.length) M I S.rs (Zr.mpr (N,by rw[L])) (rfl,hq);rwa[S.heap] at this
end
def Y19(c:Cfg)(e:E):Prop:=∀(k:Ck) (Z:DX) (a:Vw) (X:Cx) (b:Expr),Good c k Z a X->chkE k e b=true->PE X b (tF a (te c Z e))/\(noIf e=true->PT X b (tFT a (ttD (te c Z e))))
def Yh3(c:Cfg)(es:Es):Prop:=∀(k:Ck) (Z:DX) (d:Vw) (X:Cx) (e:List Expr),Good c k Z d X->Sr k es e=true->PA X e (tFA d (tes c Z es))/\
 ∀(b:Bool) (a:Pos),PE X (.BoolOp (if b then .And else .Or) e a) (tF d (tbop c Z b es))/\(Z94 es=true->PW X (.BoolOp (if b then .And else .Or) e a) (tFT d (ttD (tbop c Z b es))))
def Y06(c:Cfg)(b:Eo):Prop:=(∀(k:Ck) (Z:DX) (a:Vw) (X:Cx) (e:Option Expr),Good c k Z a X->chkO k b e=true->PO X e (tFO a (teo c Z b)))/\
 ∀(k:Ck) (Z:DX) (a:Vw) (X:Cx) (d:List Expr),Good c k Z a X->chkC k b d=true->(∃x,d=[x]/\PT X x (tFT a (tcd c Z b)))\/(d=[]/\b= .no)
def Yj9(c:Cfg)(it:It):Prop:=∀(k:Ck) (Z:DX) (a:Vw) (X:Cx) (b d:Expr),Good c k Z a X->Yc0 k it d=true->itTg it b=true->PI X b d (iF a (tit c Z it))
section
variable{c:Cfg}{k:Ck}{Z:DX}{w0:Vw}{X:Cx}
def Ni{d:D}{b:L2.St}(f:∀w:Vw,w.K=w0.K->RD w d v)(h:tF w0 (λ_ M Q=>Q d M) b H Q):tC v b H Q:=by let(w,e,M,i,S,g,a):=h;have:=a v w d M (Ext.refl w) S.rs (f w S.K) g;rwa[S.heap] at this
def both{f:DE}{d:Expr}{b:Bool}(G:Good c k Z w0 X)(h:PE X d (tF w0 f))(e:∀a,isTrue d X.env a=(do let v <-a;standAt d.pos;holding [v] (truthy v))):
  PE X d (tF w0 f)/\(b=true->PT X d (tFT w0 (ttD f))):=(h,λ_=>Yv7 G h e)
def Z61{f:Nat}{x:Str}{i:List Expr}(G:Good c k Z w0 X)(hc:k.calm=true)(R:k.FN[f]?=some x)(A:(mOf x).isNone=true)(hg:k.glob x=true)(j:Sr k es i=true)(ih:PA X i (tFA w0 (tes c Z es))):
  PE X (.Call (.Name x np) i [] pos) (tF w0 (te c Z (.call f es))):=by
 let(g1,g2,g3):=G.gl hg;let(E,L,Y):=G.exc;cases b:c.Γ[f]? with
 | none=>have h1:=(Ai.mp R).1;have V:=List.getElem?_eq_none_iff.mp b;rw[G.flen] at h1;lia
 | some J=>
  let(kk,fa,fd,pr,ds,B,dD,v,F,N,d,U,T,hD,p):=G.fns hc f x J R b;ext d At;rw[Option.isNone_iff_eq_none.mp A] at d;let(O,P):=d;have o:∀n H Q,tF w0 (te c Z (.call f es)) n H Q->tFA w0 (tes c Z es) n H λI H1=>spF X.K v (I++B) H1 Q E:=by
   rintro n H Q ⟨w,m,M,D,S,g,a⟩;show(w,m,M,_,S,g,λI u s W t r' y z=>?_);have z:J s W D Z:=by have:=z;erw[b] at this;show this
   have q:u.K=X.K:=by rw[t.K,S.K,G.eK]
   show(u,s++dD,W,D,Z,q,rfl,r',y.append (hD u q),p _ _ _ _ z,a.ext t,λC dd H' hx=>Y C dd H' (Ef (S.ext.trans t) hx))
  cases i with
  | nil=>
   show PE.imp (Zr1 F N g1 O P U T L g2) λn H Q h=>?_;have V:=o n H Q h;let(w,m,M,D,S,g,a):=V;cases es with
   | nil=>have:=a [] w [] M (Ext.refl w) S.rs (RDs.nil w) g;rwa[S.heap] at this
   | cons e r=>show absurd j Bf9
  | cons l i=>
   cases es with
   | nil=>show absurd j Bf9
   | cons e r=>change (_&&_)=true at j;erw[Bz9] at j;show PE.imp (Y44 F N g1 O P U T L ih g2 (Zu j.1.2) (Qo (W2 r i j.2))) o
def te_var{i:Nat}{a:DEnv}:te c Z (.var i) a M Q=(match a[i]? with | some (some d)=>Q d M | _=>False):=rfl
def te_glb{g:Nat}{a:DEnv}:te c Z (.glb g) a M Q=(match c.G[g]? with | some d=>Q d M | none=>False):=rfl
set_option tactic.hygienic true in
def Zp6{i:Nat}{x:Str}(G:Good c k Z w0 X)(o:k.N[i]?=some x)(n:k.vis x=true):PE X (.Name x pos) (tF w0 (te c Z (.var i))):=by
 let(j,h,f):=G.vis n;show PE.imp (Gw (i:=i) (by rw[G.N];show o) j h f) λp H Q zz=>?_;let(w,b,M,q,S,g,a):=zz;rw[te_var] at g;split at g
 .rename_i d e;let(v,m,l):=S.env.2 i d e;have:=a v w d M (Ext.refl w) S.rs l g;rw[S.heap] at this;show(v,m,this)
 .show g.elim
def Zf4{g:Nat}{x:Str}(G:Good c k Z w0 X)(p:k.GN[g]?=some x)(o:k.glob x=true):PE X (.Name x pos) (tF w0 (te c Z (.glb g))):=by
 let(g1,g2,g3):=G.gl o;cases e:c.G[g]? with
 | none=>show PE.imp (t:=λ_ _ _=>False) (λ_ _ _ _ _ _ h=>h.elim) λi H Q zz=>?_;let(w,b,M,f,S,q,a):=zz;rw[te_glb] at q;rw[e] at q;show q
 | some d=>let(v,u,m,l,j):=G.glb g x d p e;show PE.imp (Yf2 g1 m l g2) λi H Q h=>Ni (d:=d) (λw n=>j w (by rw[n,G.eK])) ?_;let(w,b,M,f,S,q,a):=h;rw[te_glb] at q;rw[e] at q;show(w,b,M,f,S,q,a)
def Zw8{b:Bf}{x:Str}{l:Expr}{f:List Expr}(G:Good c k Z w0 X)(D:k.calm=true\/Ny b=true)(B:x=(bfOf b).1)(C:k.glob x=true)(E:x∈k.BN)(i:Sr k es (l::f)=true)(u:PA X (l::f) (tFA w0 (tes c Z es))):
  PE X (.Call (.Name x A) (l::f) [] pos) (tF w0 (te c Z (.bf b es))):=by
 let(g1,g2,g3):=G.gl C;have v:=G.blt x E;have m:bootBuiltins x=some (bfOf b).2:=by rw[B];show Yg6 b
 have d:=Zr9 (w0:=w0) G.eK b (D.imp G.calm id);have j:starEach (l::f) X.env=#v[false,eval l X.env]::starEach f X.env/\(backTo pos (starEach f X.env)).any (·.1)=false:=by
  cases es with
  | nil=>show absurd i Bf9
  | cons e r=>change (_&&_)=true at i;erw[Bz9] at i;show(Zu i.1.2,Qo (W2 r f i.2))
 have h:∀o H Q,tF w0 (te c Z (.bf b es)) o H Q->tCB (rC w0 (bfD w0.K b)) (tFA w0 (tes c Z es)) o H Q:=by rintro o H Q ⟨w,n,M,I,S,g,a⟩;show(w,n,M,_,S,g,λL y F J s z p t=>?_);rw[<-G.wK] at t;show(y,J,F,I,rfl,by rw[s.K,S.K],z,p,t,a.ext s)
 cases q:(bfOf b).2 with
 | builtin id=>rw[q] at m d;show PE.imp (Z39 d g1 v m u g3 g2 j.1 j.2) h
 | type T=>rw[q] at m d;show PE.imp (Qs d g1 v m u g3 g2 j.1 j.2) h
 | _=>cases b<;>cases q
def Zx6{l:Expr}{L u:Pos}{b:List Expr}(G:Good c k Z w0 X)(J:Pw l=true)(I:(L.endLine==u.line)=true)(U:b.length<30)(t:Sr k es b=true)(F:PE X l (tF w0 (te c Z o)))(T:PA X b (tFA w0 (tes c Z es))):
  PE X (.Call (.Attribute l (mtN m) L) b [] u) (tF w0 (te c Z (.mt m o es))):=by
 have j:=Zt6 (w0:=w0) G.eK G.units m;cases b with
 | nil=>
  show PE.imp (Yr5 (Yl4 m) (Zm4 m) (Yp7 m) j F (Wo J) I) λN H Q zz=>?_;let(w,h,M,C,S,g,a):=zz;show Y4 S g λx s B D f p n q=>?_;have i:=Y08 p n q.1;rw[f.K,S.K,<-G.eK] at i;show(i,?_);cases es with
  | nil=>show(s,D,B,[],C,rfl,by rw[f.K,S.K],p,n,RDs.nil s,q.2,a.ext f)
  | cons e r=>show absurd t Bf9
 | cons z b=>
  cases es with
  | nil=>show absurd t Bf9
  | cons e r=>
   have d:=t;change (_&&_)=true at d;erw[Bz9] at d;have A:((backTo u (starEach (z::b) X.env)).all (λx=> !x.1)&&(backToKw u (keywordEach [] X.env)).all (λx=>x.1.isSome)
     &&decide ((z::b).length+([]:List Keyword).length+(if ([]:List Keyword).isEmpty then 0 else 1)<30))=true:=by
    rw[Bt (W2 _ _ t)];show(true&&true&&decide ((z::b).length+0+0<30))=true;simpa using U
   show PE.imp (Yw9 (Yl4 m) (Zm4 m) (Yp7 m) j F T (Wo J) A I (Zu d.1.2) (Qo (W2 r b d.2))) λN H Q zz=>?_;let(w,h,M,C,S,g,a):=zz;show Y4 S g λx s B D f p n q=>?_;have i:=Y08 p n q.1;rw[f.K,S.K,<-G.eK] at i;show(i,s,h,D,_,S.next f p,q.2,λY O V W v P y R=>?_);show(O,W,B,V,C,rfl,by rw[v.K,f.K,S.K],P,n.ext v,y,R,a.ext (f.trans v))
def Zl9{f:Str}{l:Expr}(G:Good c k Z w0 X)(L:Pw l=true)(I:PE X l (tF w0 (te c Z o))):PE X (.Attribute l f pos) (tF w0 (te c Z (.fld o f))):=by
 show PE.imp (Yp2 I (Wo L)) λT H Q zz=>?_;let(w,s,M,R,S,g,a):=zz;show Y4 S g λx i j n z B A b=>?_;cases j with
 | obj _ _ _ _ _ _=>
  let(rfl,p,q,r,N,y,u,t):=Z20.mp A;let((P,O),b):=b;have e:∀v d,Kb f [#v[("line":Str),p],#v["lists",q],#v["goings",r]]=some v->RD i d v->R d n->∃a C j m v,V.ref _=V.ref a/\i.H a=some (.ins C j m)/\Cls X.K C/\W6 X.K C f/\m.lookup f=some v/\Q v i.H:=λv d J D F=>(_,_,_,_,v,rfl,N,by rw[G.hK];show P,by rw[G.hK];show O,J,a v i d n z B D F);split at b
  .rename_i h;subst h;show e p _ rfl y b
  .split at b
   .rename_i h;subst h;show e q _ rfl u b
   .split at b
    .rename_i h;subst h;show e r _ rfl t b
    .show b.elim
 | _=>show b.elim
def Y20{g:Nat}{x:Str}(G:Good c k Z w0 X)(h:k.GN[g]?=some x)(f:c.G[g]?=some (.cls C)):X.mg x=↑C:=by let(v,u,d,a,b):=G.glb g x _ h f;have e:=Z45.mp (b w0 G.eK.symm);subst e;have a:u=Ay C:=a;rw[d,a]
def Zf8{g m:Nat}{l:Expr}{n y:Str}{ap z:Pos}{d:List Expr}(G:Good c k Z w0 X)(hc:k.calm=true)(hg:k.GN[g]?=some oN)(hf:k.FN[m]?=some y)(hy:mOf y=some n)(hn:n≠"line"/\n≠"lists"/\n≠"goings")(hb:Pw l=true)(hl:(ap.endLine==z.line)=true)(J:d.length<30)(W:Sr k es d=true)(ho:PE X l (tF w0 (te c Z o)))(ih:PA X d (tFA w0 (tes c Z es))):
  PE X (.Call (.Attribute l n ap) d [] z) (tF w0 (te c Z (.meO g m o es))):=by
 let(E,ps,xk):=G.exc;have O:methodCallForm (d.length+([]:List Keyword).length) (backTo z (starEach d X.env)) (backToKw z (keywordEach [] X.env))=true:=by show((backTo z (starEach d X.env)).all (λx=> !x.1)&&true&&decide (d.length+0+0<30))=true;rw[Bt (W2 _ _ W)];simpa using J
 have v0:(∀C,c.G[g]?≠some (.cls C))->PE X (.Call (.Attribute l n ap) d [] z) (tF w0 (te c Z (.meO g m o es))):=λno=>by
  show PE.imp (Z57 ho (Wo hb) O hl) λv H Q zz=>?_;let(w,i,M,Y,S,q,a):=zz;show Y4 S q λx R dx M1 s T A b=>?_
  try dsimp only at b
  split at b
  .show no _ b.1
  .show b
 by_cases f:∃C,c.G[g]?=some (.cls C)
 .let(C,f):=f;have u0:=Y20 G hg f;cases t:c.Γ[m]? with
  | none=>have h1:=(Ai.mp hf).1;have h2:=List.getElem?_eq_none_iff.mp t;rw[G.flen] at h1;lia
  | some sp=>
   let(kk,fa,fd,pr,ds,s0,dD,z0,F,hr,u,L,hd,hD,I):=G.fns hc m y sp hf t;ext u At;rw[hy] at u;let(c1,c2):=u C u0;have B:∀p q r:V,Kb n [#v[("line":Str),p],#v["lists",q],#v["goings",r]]=none:=λp q r=>by erw[Kb,beq_eq_false_iff_ne.mpr hn.1,beq_eq_false_iff_ne.mpr hn.2.1,beq_eq_false_iff_ne.mpr hn.2.2]
   have D:∀v H Q,tF w0 (te c Z (.meO g m o es)) v H Q->Y84 C n (spF X.K z0) s0 E (tF w0 (te c Z o)) (tFA w0 (tes c Z es)) v H Q:=by
    rintro v H Q ⟨w,i,M,Y,S,q,a⟩;show Y4 S q λx R dx M1 s T A b=>?_
    try dsimp only at b
    split at b
    .let(q0,b):=b;rw[f] at q0;cases q0;have y0:=A;let(rfl,p1,p2,p3,h0,_):=Z20.mp A;show(_,_,_,rfl,h0,B _ _ _,R,i,M1,_,S.next s T,b,λvs w2 o0 M2 P r2 x0 U=>?_);rw[t] at U;have N:w2.K=X.K:=by rw[P.K,s.K,S.K,G.eK]
     show(w2,_,M2,Y,Z,N,rfl,r2,RDs.cons (y0.ext P) (x0.append (hD w2 N)),I _ _ _ _ U,a.ext (s.trans P),λr0 dd H' hx=>xk r0 dd H' (Ef (S.ext.trans (s.trans P)) hx))
    .show b.elim
   cases d with
   | nil=>
    show PE.imp (Zk5 ho c1 c2 F hr L hd ps (Wo hb) hl) λv H Q h=>?_;cases es with
    | nil=>let(w,i,M,Y,S,q,a):=D v H Q h;show(w,i,M,Y,S,q,λx R dx M1 s T A b=>?_);let(p,t0,fs,e1,e2,e3,U):=a x R dx M1 s T A b;show(p,t0,fs,e1,e2,e3,?_);let(w',p0,M',QA,S',q',a'):=U;have:=a' [] w' [] M' (Ext.refl w') S'.rs (RDs.nil w') q';rwa[S'.heap] at this
    | cons e r=>show absurd W Bf9
   | cons l' d=>
    cases es with
    | nil=>show absurd W Bf9
    | cons e r=>have j:=W;change (_&&_)=true at j;erw[Bz9] at j;show PE.imp (Zv4 ho c1 c2 F hr L hd ps ih (Wo hb) O hl (Zu j.1.2) (Qo (W2 r d j.2))) D
 .show v0 λC h=>f (C,h)
def Y87{w:Vw}{x a p q g C:Uc}{d:D}(R:RS w M)(hH:w.H=H)(Y:RD w d v)(hx:H x=none)(r:H a=none)(i:a≠x)
  (m:(upd (upd (upd H a (.own x)) x (.ins C a [])) x (.ins C a (o1 v))) p=none) (f:(upd (upd (upd (upd H a (.own x)) x (.ins C a [])) x (.ins C a (o1 v))) p (.lst [])) q=none)
  (b:(upd (upd (upd (upd (upd (upd H a (.own x)) x (.ins C a [])) x (.ins C a (o1 v))) p (.lst [])) q (.lst [.ref p])) x (.ins C a (o2 v (.ref q)))) g=none):
  ∃s:Vw,Ext w s/\RS s (M++[.lst []]++[.lst [.ref M.length]]++[.lst [.bl true]])/\RD s (.obj x C a d (.ref (M.length+1)) (.ref (M.length+2))) (.ref x)/\
   s.H=upd (upd (upd (upd (upd (upd (upd (upd H a (.own x)) x (.ins C a [])) x (.ins C a (o1 v))) p (.lst [])) q (.lst [.ref p])) x (.ins C a (o2 v (.ref q)))) g (.lst [.bl true])) x (.ins C a (o3 v (.ref q) (.ref g))):=by
 subst hH;have e:x≠p:=λz=>by subst z;rw[Zf] at m;cases m
 have t:a≠p:=λz=>by subst z;rw[Z7 e.symm,Z7 e.symm,Zf] at m;cases m
 have E:p≠q:=λz=>by subst z;rw[Zf] at f;cases f
 have l:x≠q:=λz=>by subst z;rw[Z7 e,Zf] at f;cases f
 have B:a≠q:=λz=>by subst z;rw[Z7 t,Z7 i,Z7 i,Zf] at f;cases f
 have j:x≠g:=λz=>by subst z;rw[Zf] at b;cases b
 have N:q≠g:=λz=>by subst z;rw[Z7 l.symm,Zf] at b;cases b
 have L:p≠g:=λz=>by subst z;rw[Z7 e.symm,Z7 E,Zf] at b;cases b
 have K:a≠g:=λz=>by subst z;rw[Z7 i,Z7 B,Z7 t,Z7 i,Z7 i,Zf] at b;cases b
 have fp:w.H p=none:=by rw[Z7 e.symm,Z7 e.symm,Z7 t.symm] at m;show m
 have fq:w.H q=none:=by rw[Z7 E.symm,Z7 l.symm,Z7 l.symm,Z7 B.symm] at f;show f
 have fg:w.H g=none:=by rw[Z7 j.symm,Z7 N.symm,Z7 L.symm,Z7 j.symm,Z7 j.symm,Z7 K.symm] at b;show b
 let o:=w.alloc a (.own x);let n:=o.alloc x (.ins C a (o3 v (.ref q) (.ref g)));have Q:Ext w o:=Vp r;have Ra:RS o M:=R.alloc r;have O:o.H x=none:=by change upd w.H a _ x=none;rw[Z7 i.symm];show hx
 have P:Ext o n:=Vp O;have Rb:RS n M:=Ra.alloc O;have G:n.H p=none:=by change upd (upd w.H a _) x _ p=none;rw[Z7 e.symm,Z7 t.symm];show fp
 let(T,R1,d1):=Xn (xs:=[]) (vs:=[]) Rb G (RDs.nil _);have F:(n.push p (.lst [])).H q=none:=by change upd (upd (upd w.H a _) x _) p _ q=none;rw[Z7 E.symm,Z7 l.symm,Z7 B.symm];show fq
 let(S,R2,W):=Xn (xs:=[.ref M.length]) (vs:=[.ref p]) R1 F (RDs.cons d1 (RDs.nil _));have I:((n.push p (.lst [])).push q (.lst [.ref p])).H g=none:=by change upd (upd (upd (upd w.H a _) x _) p _) q _ g=none;rw[Z7 N.symm,Z7 L.symm,Z7 j.symm,Z7 K.symm];show fg
 let(J,R3,U):=Xn (xs:=[.bl true]) (vs:=[.bl true]) R2 I (RDs.cons (Xz.mpr rfl) (RDs.nil _));have l1:(M++[Cell.lst []]).length=M.length+1:=by simp
 have l2:(M++[Cell.lst []]++[Cell.lst [.ref M.length]]).length=M.length+2:=by simp
 rw[l1] at W;rw[l2] at U;show(_,(Q.trans P).trans (T.trans (S.trans J)),R3,Z20.mpr (rfl,v,.ref q,.ref g,?_,Y.ext ((Q.trans P).trans (T.trans (S.trans J))),W.ext J,U),?_)
 .change upd (upd (upd (upd (upd w.H a _) x _) p _) q _) g _ x=_;rw[Z7 j,Z7 l,Z7 e,Zf]
 .change upd (upd (upd (upd (upd w.H a _) x _) p _) q _) g _=_;funext z;by_cases h:z=x
  .subst h;rw[Z7 j,Z7 l,Z7 e,Zf,Zf]
  rw[Z7 h];by_cases A:z=g
  .subst A;rw[Zf,Zf]
  rw[Z7 A,Z7 A,Z7 h];by_cases y:z=q
  .subst y;rw[Zf,Zf]
  rw[Z7 y,Z7 y];by_cases u:z=p
  .subst u;rw[Zf,Zf]
  rw[Z7 u,Z7 u,Z7 h,Z7 h,Z7 h]
def Zb1{g:Nat}{a:E}{x:Str}{l:Expr}{V pos:Pos}(G:Good c k Z w0 X)(hc:k.calm=true)(hg:k.GN[g]?=some x)(hx:x=oN)(z:k.glob x=true)(i:Vk l=true)(Y:PE X l (tF w0 (te c Z a))):
  PE X (.Call (.Name x V) [l] [] pos) (tF w0 (te c Z (.mkO g a))):=by
 let(g1,g2,g3):=G.gl z;let(E,U,xk):=G.exc;by_cases b:∃C,c.G[g]?=some (.cls C)
 .let(C,b):=b;have j:=Y20 G hg b;let(u,hr):=G.mko hc;let(f,fd,M0,F,D):=u C (by rw[<-hx];show j);show PE.imp (Yg3 M0 F hr g1 j D .nil U (Wu Y Th (Zu i)) g2 (Zu i) rfl) λL H Q zz=>?_;let(w,n,M,QD,S,q,J):=zz;let(K,m,e,s,r,q):=q;rw[b] at m;cases m;show Y4 S q λv w1 d M1 N R P T=>?_;show λy I hy B W=>(y,C,I,v,rfl,Zf,by rw[G.hK];show e.1,by rw[G.hK];show e.2,by rw[G.hK];show s.2,by rw[G.hK];show r.2,λp q' g' hp hq A=>(rfl,?_));let(O,e',R',o,hH):=Y87 R rfl P hy B W hp hq A;rw[<-hH];show J _ O _ _ (N.trans e') R' o (T y I)
 .refine PE.imp (t:=λ_ _ _=>False) (λ_ _ _ _ _ _ h=>h.elim) λL H Q zz=>?_;let(w,n,M,QD,S,q,J):=zz;let(K,m,_):=q;show(b (K,m)).elim
def Zr8{a:E}{lo hi:Eo}{l:Expr}{x y:Option Expr}{u pos:Pos}(G:Good c k Z w0 X)(v:PE X l (tF w0 (te c Z a)))(A:PO X x (tFO w0 (teo c Z lo)))(z:PO X y (tFO w0 (teo c Z hi))):
  PE X (.Subscript l (.Slice x y none u) pos) (tF w0 (te c Z (.sl a lo hi))):=by
 show PE.imp (Z36 (Zu9 (w0:=w0) G.eK) v A z) λL H Q zz=>?_;let(w,b,M,D,S,g,C):=zz;show Y4 S g λx n B J e i o t=>?_;show(n,b,J,_,S.next e i,t,λl m I d q s=>?_);show(m,b,I,_,(S.next e i).next d q,s,λh j F f p r=>?_);show(j,F,B,D,rfl,by rw[f.K,d.K,e.K,S.K],p,o.ext (d.trans f),r,C.ext ((e.trans d).trans f))
def sl_W:SlR X (λx lo hi H Q=>∃a xs,x= .ref a/\SqT X.K H a xs/\((HT.sIx xs.length 0 lo=0/\HT.sIx xs.length xs.length hi=xs.length)->Q x H)/\∀p,H p=none->Q (.ref p) (upd H p (.tup (cutV xs lo hi)))):=by
 intro b s e H x v g f lo hi i Q I j o m l h;let(a,xs,rfl,n,r,q):=h;by_cases d:HT.sIx xs.length 0 lo=0/\HT.sIx xs.length xs.length hi=xs.length
 .show Y74 b s e H _ v g f lo hi i Q I j o m l (a,xs,rfl,n,d,r d)
 .show Y38 b s e H _ v g f lo hi i Q I j o m l (a,xs,rfl,n,d,q)
def Zf0{a:E}{lo hi:Eo}{l:Expr}{x y:Option Expr}{P pos:Pos}(G:Good c k Z w0 X)(T:PE X l (tF w0 (te c Z a)))(h:PO X x (tFO w0 (teo c Z lo)))(U:PO X y (tFO w0 (teo c Z hi))):
  PE X (.Subscript l (.Slice x y none P) pos) (tF w0 (te c Z (.slW a lo hi))):=by
 show PE.imp (Z36 sl_W T h U) λσ H Q zz=>?_;let(w,b,M,QD,S,g,u):=zz;show Y4 S g λx D dx M1 j K I O=>?_;have v:=S.next j K;show(D,b,M1,_,v,O,λs C Y f J N=>?_);have W:=v.next f J;show(C,b,Y,_,W,N,λh w3 M3 i r L=>?_);let(o,rfl,m):=E1 L;have d:=(I.ext f).ext i;let(p,F,rfl,V,n):=Yp.mp d;show(p,F,rfl,.of V,λt=>?_,λq R=>?_)
 .have e:cutD o s h=o:=by ext cutD;rw[<-n.length,t.1,t.2,List.drop_zero,Nat.sub_zero,n.length,Ik]
  rw[e] at m;show u _ _ _ _ ((j.trans f).trans i) r d m
 .let(B,A,z):=Rf r R (Cn (lo:=s) (hi:=h) n);show u _ _ _ _ (((j.trans f).trans i).trans B) A z m
def Za5{a:E}{x y:Str}{V F h D:Pos}{l:Expr}(G:Good c k Z w0 X)(hc:k.calm=true)(hx:x=("list":Str))(Y:y=("reversed":Str))(hg:k.glob x=true)(s:k.glob y=true)(hB:x∈k.BN)(u:y∈k.BN)(L:Vk l=true)(W:PE X l (tF w0 (te c Z a))):
  PE X (.Call (.Name x V) [.Call (.Name y F) [l] [] D] [] h) (tF w0 (te c Z (.lrev a))):=by
 let(g1,g2,g3):=G.gl hg;let(A,z,v):=G.gl s;have i:=Qs (p:=F) (pos:=D) (Zs7 (X:=X)) A (G.blt _ u) (by rw[Y];show J7) (Wu W Th (Zu L)) v z (Zu L) rfl;show PE.imp (Qs (Z92 (X:=X) (G.calm hc)) g1 (G.blt _ hB) (by rw[hx];show boot_list) (Wu i Th rfl) g3 g2 rfl rfl) λσ H Q zz=>?_;let(w,N,M,QD,S,g,aq):=zz;show Y4 S g λx f dx M1 B C U h=>?_;let(n,rfl,h):=Xv h;let(hn,rfl):=Zr.mp U;let(xs,e1,q):=h;have hK:f.K=X.K:=by rw[B.K,S.K,G.eK]
 let(_,m,d,O,_):=C.listL e1;rw[hK] at d;show(_,m,rfl,d,λp J j=>?_);show(p,f.μ n,m,rfl,Zf,?_,λt I=>?_)
 .rcases d with(d|⟨o,d⟩)|d
  .show .inl (.inl (by rw[Z7 j];show d))
  .show .inl (.inr (o,by rw[Z7 j];show d))
  .show .inr d
 .have hd:del (upd f.H p (.ext (Z27 X.s₀⁻¹ p (f.μ n) m.length))) p=f.H:=by
   funext b;ext del;split
   .rename_i e;rw[e];show J.symm
   .rename_i e;show Z7 e
  have r:f.H t=none:=by
   by_cases e:t=p
   .rw[e];show J
   .rw[Z7 e] at I;show I
  rw[hd];let(T,R,P):=Xn C r O.reverse;show aq _ _ _ _ (B.trans T) R P q
def Z79{a:E}{x:Str}{z f:Pos}{l:Expr}(G:Good c k Z w0 X)(C:k.calm=true)(A:x=("any":Str))(B:k.glob x=true)(F:x∈k.BN)(s:Vk l=true)(j:PE X l (tF w0 (te c Z a))):
  PE X (.Call (.Name x z) [l] [] f) (tF w0 (te c Z (.anyf a))):=by
 let(g1,g2,g3):=G.gl B;show PE.imp (Z39 (Zz3 (X:=X) (G.calm C)) g1 (G.blt _ F) (by rw[A];show Zq6) (Wu j Th (Zu s)) g3 g2 (Zu s) rfl) λP H Q zz=>?_;let(w,t,M,U,S,g,O):=zz;show Y4 S g λx o T W m p y f=>?_;let(n,rfl,f):=Xv f;let(R,rfl):=Zr.mp y;let(d,N,q):=f;have D:o.K=X.K:=by rw[m.K,S.K,G.eK]
 let(_,e,i,u,_):=p.listL N;rw[D] at i;have L:∀{d:List Bool} {e:LV},RDs o (d.map .bl) e->e=d.map V.bl:=by
  intro d;induction d with
  | nil=>intro e h;show rds0 h
  | cons b d j=>intro e h;rw[Aj] at h;ext h RDs;let(v,r,rfl,J,I):=h;rw[j I,Xz.mp J];rfl
 rw[L u] at i;show(_,d,rfl,i,O _ _ _ _ m p (Xz.mpr rfl) q)
def Zb9{x:Expr}(h:Z80 x=true)(v):foldedSetIterable x env v=pure v:=by cases x<;>first | rfl | left
def Zz7{a b:E}{l r:Expr}(G:Good c k Z w0 X)(hn:C7 r=true)(ha:PE X l (tF w0 (te c Z a)))(hb:PE X r (tF w0 (te c Z b))):PE X (.Subscript l r pos) (tF w0 (te c Z (.ix a b))):=by
 have pl:Zl1 r:=by intro o i;cases r<;>first | rfl | show absurd hn Bf9
 show PE.imp (Yu2 (Zw0 (w0:=w0) G.eK G.units) ha hb pl) λσ H Q zz=>?_;let(w,σD,M,QD,S,g,aq):=zz;show Y4 S g λx w1 dx M1 x1 r1 rx q1=>?_;show Y4 (S.next x1 r1) q1 λy w2 dy M2 x2 r2 ry q2=>?_;show(w2,M2,dx,dy,_,rfl,by rw[x2.K,x1.K,S.K],r2,rx.ext x2,ry,q2,λd v hq hr=>aq v w2 d M2 (x1.trans x2) r2 hr hq)
def Oq{L:List (Option Nat)}{el t iter:Expr}(G:Good c k Z w0 X)(T:k.calm=true)(ho:O5 k.sc k.N o L scope=true)(q0:Z80 iter=true)(hn:o.Nodup)
  (hi:PI X t iter (iF w0 (tit c Z it))) (ht:O8 {k with N:=o,sc:=V4 scope k.sc,cells:=false,own:=Cy scope,tries:=false,raises:=[]} I t=true) (hd:chkC {k with N:=o,sc:=V4 scope k.sc,cells:=false,own:=Cy scope,tries:=false,raises:=[]} cd j=true) (he:chkE {k with N:=o,sc:=V4 scope k.sc,cells:=false,own:=Cy scope,tries:=false,raises:=[]} e el=true) (s0:Y19 c e) (r0:Y06 c cd):
  PE X (.ListComp el [(t,iter,j,0)] scope pos) (tF w0 (te c Z (.comp o L I it cd e)))/\
  ∀(i:Nat) (x:Str) (px n:Pos),X.N[i]?=some x->X.env.scope.names.lookup x=some .local->swapsWith (.ListComp el [(t,iter,j,0)] scope pos) (some (.Name x px)) n.line X.env=pure true->
   PS X (.Assign [.Name x px] (.ListComp el [(t,iter,j,0)] scope pos) n) (λR l H=>tF w0 (te c Z (.comp o L I it cd e)) l H λv H1=>R.nx (l.set i (some v)) H1):=by
 have D:O5 X.env.scope X.N o L scope=true:=by rw[G.sc,G.N];show ho
 have hf:=Zb9 (env:=X.env) q0;have hg:=λu C r f s H=>(Good.block G T (scope:=scope) hn u C r f s H).tgt I t ht;have F:=λu C r f s H=>(s0 _ _ _ _ el (Good.block G T (scope:=scope) hn u C r f s H) he).1;have O:∀l H Q,tF w0 (te c Z (.comp o L I it cd e)) l H Q->iF w0 (tit c Z it) l H λJ H1=>∀p,H1 p=none->∃W:Nat->Nat->L2.St->Hp->Prop,(∃m,W 0 m (Qg L l) (upd H1 p (.lst [])))/\
   ∀i m z V,W i m z V->(J.stop i V/\Q (.ref p) V)\/(J.go i V/\∀x H',J.yld i V x H'->gF w0 I x z H' λB H2=>tFT w0 (tcd c noX cd) B H2 λb H3=>if b=true then tF w0 (te c noX e) B H3 λy H4=>∃U,H4 p=some (.lst U)/\U.length<sizeLine/\
    ∃m',m'<m/\W (i+1) m' B (upd H4 p (.lst (U++[y]))) else ∃m',m'<m/\W (i+1) m' B H3):=by
  rintro l H Q ⟨w,A,M,QD,S,g,a⟩;show(w,A,M,_,S,g,λJ w1 z0 xs M1 x1 R1 jk q1=>?_);show Zx5 (S.ext.trans x1) rfl R1 (Y63 (S.env.ext x1)) jk q1 λv w2 d M2 x2 r2 t0 zz=>by let(e2,q2):=zz;show a v w2 d M2 (x1.trans x2) r2 t0 (by rw[e2];show q2)
 have y0:∀{l:L2.St} {H:Hp} {P:Bool->Hp->Prop},cd= .no->tFT w0 (tcd c noX cd) l H P->P true H:=by intro l H P e h;subst e;let(w,A,M,QD,S,g,a):=h;have:=a true w M (Ext.refl w) S.rs g;rwa[S.heap] at this
 cases j with
 | nil=>
  have p0:cd= .no:=by
   cases cd with
   | no=>rfl
   | yes e'=>show absurd hd Bf9
  have K:∀l H Q,tF w0 (te c Z (.comp o L I it cd e)) l H Q->Yi9 L (iF w0 (tit c Z it)) (gF w0 I) (tF w0 (te c noX e)) l H Q:=by intro l H Q h;let(w,A,M,QD,S,g,a):=O l H Q h;show(w,A,M,QD,S,g,λJ w' z0 xs M' x' r' jk q p hp=>?_);let(W,w1,w2):=a J w' z0 xs M' x' r' jk q p hp;show(W,w1,λi m z V hW=>(w2 i m z V hW).imp id λ(z1,z2)=>(z1,λx H' hy=>?_));let(v1,v2,v3,v4,v5,v6,v7,v8,v9):=z2 x H' hy;show(v1,v2,v3,v4,v5,v6,v7,v8,λu0 Y en q'=>?_);have:=y0 p0 (v9 u0 Y en q');rwa[nc rfl] at this
  show(PE.imp (Zd2 (tc:=λ_ H Q=>Q true H) (G.calm T) D hi hg (.inl (rfl,rfl)) F hf) K,λi x px n h1 h2 h3=>PS.imp (Ze4 (tc:=λ_ H Q=>Q true H) (G.calm T) D G.nd h1 h2 hi hg (.inl (rfl,rfl)) F h3 hf) λR l H h=>K l H _ h)
 | cons x0 j=>
  have hq:∀u C r f s H,∃x,x0::j=[x]/\PT (cxC X o scope u C r f s H) x (tFT w0 (tcd c noX cd)):=λu C r f s H=>by
   rcases r0.2 _ _ _ _ (x0::j) (Good.block G T (scope:=scope) hn u C r f s H) hd with h|⟨h,_⟩
   .show h
   .cases h
  have e0:j=[]:=by
   cases cd with
   | no=>show absurd hd Bf9
   | yes e'=>
    cases j with
    | nil=>rfl
    | cons _ _=>show absurd hd Bf9
  subst e0;have v0:∀u C r f s H,PT (cxC X o scope u C r f s H) x0 (tFT w0 (tcd c noX cd)):=λu C r f s H=>by let(x,h1,h2):=hq u C r f s H;cases h1;show h2
  show(PE.imp (Zd2 (G.calm T) D hi hg (.inr (_,rfl,v0)) F hf) O,λi x px n h1 h2 h3=>PS.imp (Ze4 (G.calm T) D G.nd h1 h2 hi hg (.inr (_,rfl,v0)) F h3 hf) λR l H h=>O l H _ h)
def te_cmp_bl{op:Cm}{a b:E}(f:DEnv)(M:Z3)(QD:DK)(h:te c Z (.cmp op a b) f M QD):te c Z (.cmp op a b) f M λd M'=>(∃b,d= .bl b)/\QD d M':=by
 have e:(fun(d:D) (M':Z3)=>QD d M')=QD:=rfl;change te c Z a f M λx i=>te c Z b f i λy g=>cmD g op x y λr=>(∃b,D.bl r= .bl b)/\QD (.bl r) g;have h:te c Z a f M (λx i=>te c Z b f i λy g=>cmD g op x y λr=>QD (.bl r) g):=h;have:(fun(x:D) (i:Z3)=>te c Z b f i λy g=>cmD g op x y λr=>QD (.bl r) g)=λx i=>te c Z b f i λy g=>cmD g op x y λr=>(∃b,D.bl r= .bl b)/\QD (.bl r) g:=by funext x i;congr 1;funext y g;congr 1;funext r;show propext (λh=>((r,rfl),h),λh=>h.2)
 rw[this] at h;show h
def Yb9{a b:Expr}{m l:TE}(u:PE X a m)(t:PE X (.BoolOp .And (b::e) pos) l):PE X (.BoolOp .And (a::b::e) pos) (λf H Q=>m f H λx i=>∃z,TruV X.K x i z/\if z=true then l f i Q else Q x i):=by
 intro d s f H Q I h;show BoolOp_and (thn (u d s f H _ I h) λv q zz=>?_);let(x,i,w,n,r):=zz;show thn (Bu d q f i x v (λz g=>if z=true then l f g Q else Q x g) w n r) λz p zz=>?_;let(g,o,j):=zz;cases z with
 | true=>show t d p f g Q o (by rw[nc rfl] at j;show j)
 | false=>show(x,g,o,n,by rw[nb Bf9] at j;show j)
def Yk7{a b:Expr}{m l:TE}(u:PE X a m)(t:PE X (.BoolOp .Or (b::e) pos) l):PE X (.BoolOp .Or (a::b::e) pos) (λf H Q=>m f H λx i=>∃z,TruV X.K x i z/\if z=true then Q x i else l f i Q):=by
 intro d s f H Q I h;show BoolOp_or (thn (u d s f H _ I h) λv q zz=>?_);let(x,i,w,n,r):=zz;show thn (Bu d q f i x v (λz g=>if z=true then Q x g else l f g Q) w n r) λz p zz=>?_;let(g,o,j):=zz;cases z with
 | false=>show t d p f g Q o (by rw[nb Bf9] at j;show j)
 | true=>show(x,g,o,n,by rw[nc rfl] at j;show j)
def E5{n:Nat}(b:Zg M n=some xs)(a:Yk M n=some ys):False:=by
 ext b Zg;ext a Yk;cases h:M[n]? with
 | none=>rw[h] at a;cases a
 | some c=>rw[h] at b a;cases c<;>simp at b a
def Z42{x:D}{k:Bool}:truD M x (λb=>if b=k then A else truD M x P)=truD M x (λb=>if b=k then A else P b):=by
 cases x with
 | str y=>apply propext;show(y.length<=sizeLine/\if ((y.length:Int) !=0)=k then A else(y.length<=sizeLine/\P ((y.length:Int) !=0)))↔(y.length<=sizeLine/\if ((y.length:Int) !=0)=k then A else P ((y.length:Int) !=0));split<;>simp (config:={contextual:=true})
 | ref n=>
  apply propext;have a:∀Q:Bool->Prop,truD M (.ref n) Q↔(∃d,Zg M n=some d/\Q (!d.isEmpty))\/(∃d,Yk M n=some d/\Q (!d.isEmpty)):=λQ=>Lr;constructor
  .intro h;rcases(a _).mp h with⟨d,g,f⟩|⟨d,g,f⟩
   .refine(a _).mpr (.inl (d,g,?_));split at f
    .rename_i e;rw[nc e];show f
    .rename_i e;rw[nb e];rcases(a _).mp f with⟨j,g1,g2⟩|⟨j,g1,g2⟩
     .rw[g] at g1;cases g1;show g2
     .exact(E5 g g1).elim
   .refine(a _).mpr (.inr (d,g,?_));split at f
    .rename_i e;rw[nc e];show f
    .rename_i e;rw[nb e];rcases(a _).mp f with⟨j,g1,g2⟩|⟨j,g1,g2⟩
     .exact(E5 g1 g).elim
     .rw[g] at g1;cases g1;show g2
  .intro h;rcases(a _).mp h with⟨d,g,f⟩|⟨d,g,f⟩
   .refine(a _).mpr (.inl (d,g,?_));split at f
    .rename_i e;rw[nc e];show f
    .rename_i e;rw[nb e];show(a _).mpr (.inl (d,g,f))
   .refine(a _).mpr (.inr (d,g,?_));split at f
    .rename_i e;rw[nc e];show f
    .rename_i e;rw[nb e];show(a _).mpr (.inr (d,g,f))
 | non=>rfl
 | bl b=>rfl
 | int i=>rfl
 | tup d=>rfl
 | _=>rfl
def te_bop_tt{e f:E}{d:DEnv}(h:ttD (tbop c Z true (.cons e (.cons f r))) d M QD):
  ttD (te c Z e) d M λz a=>if z=true then ttD (tbop c Z true (.cons f r)) d a QD else QD false a:=by
 have i:(fun(x:D) (a:Z3)=>truD a x λb=>if b=true then ttD (tbop c Z true (.cons f r)) d a QD else truD a x λb=>QD b a)=
   λx a=>truD a x λz=>if z=true then ttD (tbop c Z true (.cons f r)) d a QD else QD false a:=by
  funext x a;rw[Z42];congr 1;funext b;cases b<;>rfl
 have g:te c Z e d M fun(x:D) (a:Z3)=>truD a x λb=>if b=true then ttD (tbop c Z true (.cons f r)) d a QD else truD a x λb=>QD b a:=h;rw[i] at g;show g
def te_bop_ff{e f:E}{d:DEnv}(h:ttD (tbop c Z false (.cons e (.cons f r))) d M QD):
  ttD (te c Z e) d M λz a=>if z=true then QD true a else ttD (tbop c Z false (.cons f r)) d a QD:=by
 have i:(fun(x:D) (a:Z3)=>truD a x λb=>if b=false then ttD (tbop c Z false (.cons f r)) d a QD else truD a x λb=>QD b a)=
   λx a=>truD a x λz=>if z=true then QD true a else ttD (tbop c Z false (.cons f r)) d a QD:=by
  funext x a;rw[Z42];congr 1;funext b;cases b<;>rfl
 have g:te c Z e d M fun(x:D) (a:Z3)=>truD a x λb=>if b=false then ttD (tbop c Z false (.cons f r)) d a QD else truD a x λb=>QD b a:=h;rw[i] at g;show g
end
def Z87{k:Ck}{a:E}{f:Expr}(h:chkE k (.lrev a) f=true):∃x y l e d c b,f= .Call (.Name x e) [.Call (.Name y d) [l] [] b] [] c/\
  (k.calm&&x==("list":Str)&&y==("reversed":Str)&&k.glob x&&k.glob y&&k.BN.contains x&&k.BN.contains y&&Vk l&&chkE k a l)=true:=by
 let(x,e,n,c,m,i):=T5 h;let(y,d,l,b,j,g):=T5 i;show(x,y,l,e,d,c,b,by rw[m,j],g)
def Yv8{op:Cm}(h0:(!isIn op || Z80 r)=true):behindInMarks (cmOf op) r=false:=by
 cases r with
 | Set b a p=>cases op<;>first | show absurd h0 Bf9 | (simp[behindInMarks,cmOf])
 | _=>rfl
mutual
theorem Zm(c:Cfg):∀e:E,Y19 c e
 | .var i,k,Z,d,X,s,G,h=>by let(x,n,rfl,h):=Xs h;change (_&&_)=true at h;erw[Bz9,beq_iff_eq] at h;show both G (Zp6 G h.1 h.2) λ_=>rfl
 | .int i,k,Z,d,X,s,G,h=>by
  let(v,j,n,rfl,h):=Wz h;cases v with
  | int m=>have h:(i==m)=true:=h;erw[beq_iff_eq] at h;subst h;show both G (PE.imp Ym2 λD H Q q=>Ni (λ_ _=>Zk.mpr rfl) q) λ_=>rfl
  | _=>left
 | .bl i,k,Z,d,X,s,G,h=>by
  let(v,j,n,rfl,h):=Wz h;cases v with
  | bool m=>have h:(i==m)=true:=h;erw[beq_iff_eq] at h;subst h;show both G (PE.imp Yj6 λD H Q q=>Ni (λ_ _=>Xz.mpr rfl) q) λ_=>rfl
  | _=>left
 | .non,k,Z,d,X,s,G,h=>by
  let(v,j,n,rfl,h):=Wz h;cases v with
  | none=>show both G (PE.imp Yl1 λD H Q q=>Ni (λ_ _=>Ye.mpr rfl) q) λ_=>rfl
  | _=>left
 | .str i,k,Z,d,X,s,G,h=>by
  let(v,j,n,rfl,h):=Wz h;cases v with
  | str m=>have h:(i==m)=true:=h;erw[beq_iff_eq] at h;subst h;show both G (PE.imp Yo6 λD H Q q=>Ni (λ_ _=>Zw.mpr rfl) q) λ_=>rfl
  | _=>left
 | .ty t,k,Z,d,X,s,G,h=>by let(x,n,rfl,h):=Xs h;change (_&&_)=true at h;erw[Bz9,beq_iff_eq,Hn] at h;let(g1,g2,g3):=G.gl h.1.2;show both G (PE.imp (Y43 (v:= .ty (Yo t)) g1 (G.blt x h.2) (by rw[h.1.1];show Yi3 t) rfl g3 g2) λD H Q q=>Ni (λ_ _=>Y68.mpr rfl) q) λ_=>rfl
 | .glb g,k,Z,d,X,s,G,h=>by let(x,n,rfl,h):=Xs h;change (_&&_)=true at h;erw[Bz9,beq_iff_eq] at h;show both G (Zf4 G h.1 h.2) λ_=>rfl
 | .bin op a b,k,Z,d,X,s,G,h=>by let(l,o,r,n,rfl,h):=Zh5 h;change (_&&_)=true at h;erw[Bz9,beq_iff_eq] at h;let((rfl,A),I):=h;show both G (PE.imp (Yy0 (Zs9 (w0:=d) op) (Zm c a k Z d X l G A).1 (Zm c b k Z d X r G I).1) λD H Q q=>Zg2 q) λ_=>rfl
 | .neg a,k,Z,d,X,s,G,h=>by
  let(o,l,n,rfl,h):=Z46 h;change (_&&_)=true at h;erw[Bz9,beq_iff_eq] at h;let(rfl,A):=h;show both G (PE.imp (Yv5 Yj4 (Zm c a k Z d X l G A).1) λD H Q zz=>?_) λ_=>rfl;let(w,u,M,V,S,g,C):=zz;show Y4 S g λx w1 dx T L O rx B=>?_;split at B
  .cases Zk.mp rx;show(_,rfl,C _ w1 _ T L O (Zk.mpr rfl) B)
  .show B.elim
 | .not a,k,Z,d,X,s,G,h=>by
  let(o,l,n,rfl,h):=Z46 h;change (_&&_)=true at h;erw[Bz9,beq_iff_eq] at h;let(rfl,A):=h;let(i1,i2):=Zm c a k Z d X l G A;show(PE.imp (Yf7 i1) λD H Q (w,u,M,V,S,g,C)=>?_,λhn=>PT.imp (Yn2 (i2 hn)) λD H Q (w,u,M,V,S,g,C)=>?_)
  .refine Y4 S g λx w1 dx T L O rx B=>?_;let(b,t1,t2):=Sz (K:=X.K) (by rw[L.K,S.K,G.eK]) O rx B;show(b,t1,C _ w1 _ T L O (Xz.mpr rfl) t2)
  .exact(w,u,M,λb T=>V (!b) T,S,g,λb w' M' x' r' q'=>C _ w' M' x' r' q')
 | .cmp op a b,k,Z,d,X,s,G,h=>by let(l,os,rs,n,rfl,h):=Zl5 h;let(o,rfl,h):=Rr h;let(r,rfl,h):=Rr h;change (_&&_)=true at h;rw[Bz9,Bz9,Bz9,beq_iff_eq] at h;let(((rfl,h0),A),I):=h;have hm:=Yv8 h0;have ia:=(Zm c a k Z d X l G A).1;have ib:=(Zm c b k Z d X r G I).1;show(PE.imp (Y99 (Bl (w0:=d) G.eK G.units op) ia ib hm) λD H Q q=>Gb q,λ_=>Yd3 (PT.imp (Y58 (Bl (w0:=d) G.eK G.units op) ia ib hm) λD H Q q=>Gb q) te_cmp_bl)
 | .bop b J,k,Z,d,X,s,G,h=>by
  let(o,F,n,rfl,h):=Z47 h;change (_&&_)=true at h;erw[Bz9,beq_iff_eq] at h;let(rfl,h):=h;cases b with
  | true=>let(i1,i2):=(V3 c J k Z d X F G h).2 true n;show(i1,λhn=>(i2 hn).pt)
  | false=>let(i1,i2):=(V3 c J k Z d X F G h).2 false n;show(i1,λhn=>(i2 hn).pt)
 | .ife t a b,k,Z,d,X,s,G,h=>by
  let(x,l,r,n,rfl,h):=Zq2 h;change (_&&_)=true at h;erw[Bz9] at h;show(PE.imp (Zv0 ((Zm c t k Z d X x G h.1.1.1).2 h.2) (Zm c a k Z d X l G h.1.1.2).1 (Zm c b k Z d X r G h.1.2).1) λD H Q zz=>?_,λhn=>absurd hn Bf9);let(w,u,M,V,S,g,C):=zz;show(w,u,M,λr T=>if r=true then te c Z a u T V else te c Z b u T V,S,g,λr w1 T L O B=>?_);cases r with
  | true=>rw[nc rfl] at B |-;show Y4 (S.next L O) B (C.ext L)
  | false=>rw[nb Bf9] at B |-;show Y4 (S.next L O) B (C.ext L)
 | .lst J,k,Z,d,X,s,G,h=>by let(F,n,rfl,h):=Zn3 h;show both G (PE.imp (Z40 (V3 c J k Z d X F G h).1) λD H Q zz=>?_) λ_=>rfl;let(w,u,M,V,S,g,C):=zz;show(w,u,M,_,S,g,λvs w1 ds T L O N B=>(by rw[N.length];show B.1,λp W=>?_));let(y1,y2,Y):=Xn O W N;show C _ _ _ _ (L.trans y1) y2 Y B.2
 | .tup J,k,Z,d,X,s,G,h=>by let(F,kk,n,rfl,h):=Ga h;show both G (PE.imp (Yn1 (V3 c J k Z d X F G h).1) λD H Q zz=>?_) λ_=>rfl;let(w,u,M,V,S,g,C):=zz;show(w,u,M,_,S,g,λvs w1 ds T L O N B=>(by rw[N.length];show B.1,λp W=>?_));let(y1,y2,Y):=Rf O W N;show C _ _ _ _ (L.trans y1) y2 Y B.2
 | .dict0,k,Z,d,X,s,G,h=>by let(ks,vs,n,rfl,h):=G6 h;let(rfl,h):=Tk h;let(rfl,_):=Tk h;show both G (PE.imp Zs3 λD H Q zz=>?_) λ_=>rfl;let(w,u,M,V,S,g,C):=zz;intro p W;rw[<-S.heap] at W;let(y1,y2,Y):=Nw (xs:=[]) (vs:=[]) S.rs W (by ext RKV;rfl);have:=C _ _ _ _ y1 y2 Y g;rw[<-S.heap];show this
 | .dictT,k,Z,d,X,s,G,h=>by let(ks,vs,n,rfl,h):=G6 h;let(rfl,h):=Tk h;let(rfl,_):=Tk h;show both G (PE.imp Zu0 λD H Q zz=>?_) λ_=>rfl;let(w,u,M,V,S,g,C):=zz;intro p W;rw[<-S.heap] at W;let(y1,y2,Y):=Zk2 (xs:=[]) (vs:=[]) S.rs W (by ext RKV;rfl);have:=C _ _ _ _ y1 y2 Y g;rw[<-S.heap];show this
 | .ix a b,k,Z,d,X,s,G,h=>by let(l,r,n,rfl,h):=Si h;change (_&&_)=true at h;erw[Bz9] at h;show both G (Zz7 G h.1.1 (Zm c a k Z d X l G h.1.2).1 (Zm c b k Z d X r G h.2).1) λ_=>rfl
 | .sl a lo hi,k,Z,d,X,s,G,h=>by let(l,r,n,rfl,h):=Si h;let(x,y,z,p2,rfl,h):=G7 h;let(rfl,h):=Zm9 h;change (_&&_)=true at h;erw[Bz9] at h;show both G (Zr8 G (Zm c a k Z d X l G h.1.1).1 ((N5 c lo).1 k Z d X x G h.1.2) ((N5 c hi).1 k Z d X y G h.2)) λ_=>rfl
 | .slW a lo hi,k,Z,d,X,s,G,h=>by let(l,r,n,rfl,h):=Si h;let(x,y,z,p2,rfl,h):=G7 h;let(rfl,h):=Zm9 h;change (_&&_)=true at h;erw[Bz9] at h;show both G (Zf0 G (Zm c a k Z d X l G h.1.1).1 ((N5 c lo).1 k Z d X x G h.1.2) ((N5 c hi).1 k Z d X y G h.2)) λ_=>rfl
 | .lrev a,k,Z,d,X,s,G,h=>by let(x,y,l,p1,p2,B,q2,rfl,hs):=Z87 h;erw[Bz9,beq_iff_eq,Hn] at hs;let((((((((A,I),R),P),U),h6),h7),h8),h9):=hs;show both G (Za5 G A I R P U h6 h7 h8 (Zm c a k Z d X l G h9).1) λ_=>rfl
 | .anyf a,k,Z,d,X,s,G,h=>by let(x,p1,l,B,rfl,hs):=T5 h;change (_&&_)=true at hs;erw[Bz9,beq_iff_eq,Hn] at hs;let(((((A,I),R),P),U),h6):=hs;show both G (Z79 G A I R P U (Zm c a k Z d X l G h6).1) λ_=>rfl
 | .call f J,k,Z,d,X,s,G,h=>by let(x,np,F,n,rfl,h):=Np h;change (_&&_)=true at h;erw[Bz9,beq_iff_eq] at h;show both G (Z61 G h.1.1.1 h.1.1.2.1 h.1.1.2.2 h.1.2 h.2 (V3 c J k Z d X F G h.2).1) λ_=>rfl
 | .bf b J,k,Z,d,X,s,G,h=>by let(x,np,F,n,rfl,h):=Np h;let(l,F,rfl,h):=Ya9 h;change (_&&_)=true at h;erw[Bz9,beq_iff_eq,Bool.or_eq_true,Hn] at h;show both G (Zw8 G h.1.1.1.1 h.1.1.1.2 h.1.1.2 h.1.2 h.2 (V3 c J k Z d X (l::F) G h.2).1) λ_=>rfl
 | .mt m o J,k,Z,d,X,s,G,h=>by let(l,nm,ap,F,n,rfl,h):=Z30 h;change (_&&_)=true at h;erw[Bz9,beq_iff_eq,decide_eq_true_eq] at h;let(((((rfl,A),I),R),P),U):=h;show both G (Zx6 G A (by rw[I];simp) R U (Zm c o k Z d X l G P).1 (V3 c J k Z d X F G U).1) λ_=>rfl
 | .mkO g a,k,Z,d,X,s,G,h=>by let(x,np,l,n,rfl,h):=T5 h;change (_&&_)=true at h;erw[Bz9,beq_iff_eq] at h;show both G (Zb1 G h.1.1.1.1 h.1.1.1.2.1 h.1.1.1.2.2 h.1.1.2 h.1.2 (Zm c a k Z d X l G h.2).1) λ_=>rfl
 | .meO g m o J,k,Z,d,X,s,G,h=>by let(l,nm,ap,F,n,rfl,h):=Z30 h;change (_&&_)=true at h;erw[Bz9,beq_iff_eq,decide_eq_true_eq,bne_iff_ne] at h;let((((((((A,I),R),P),U),h6),h7),h8),h9):=h;let(y,hf,R):=Y56 R;show both G (Zf8 G A I hf (Kf R) (P.1.1,P.1.2,P.2) U (by rw[h6];simp) h7 h9 (Zm c o k Z d X l G h8).1 (V3 c J k Z d X F G h9).1) λ_=>rfl
 | .fld o f,k,Z,d,X,s,G,h=>by let(l,g,n,rfl,h):=Ol h;change (_&&_)=true at h;erw[Bz9,beq_iff_eq] at h;let((rfl,A),I):=h;show both G (Zl9 G A (Zm c o k Z d X l G I).1) λ_=>rfl
 | .comp N' js tg it cd e,k,Z,d,X,s,G,h=>by let(el,x0,y0,n,rfl,h):=Qi h;let(g,rfl,h):=Rr h;let(t,z0,v0,as):=g;let(rfl,h):=Zf7 h;change (_&&_)=true at h;erw[Bz9,decide_eq_true_eq] at h;let((((((((A,I),R),P),U),h6),h7),h8),h9):=h;show both G (Oq G A I R U (Zn6 c it k Z d X t z0 G P h9) h6 h7 h8 (Zm c e) (N5 c cd)).1 λ_=>rfl
theorem V3(c:Cfg):∀es:Es,Yh3 c es
 | .nil,k,Z,V,X,E,G,h=>by
  cases E with
  | nil=>show(PA.imp Th λx H Q zz=>?_,λb N=>(PE.imp (t:=λ_ _ _=>False) (λ_ _ _ _ _ _ h=>h.elim) λx H Q zz=>by let(w,f,M,A,S,g,m):=zz;show g,λ_ a i s x H Q I zz=>by let(w,f,M,A,S,g,m):=zz;show g.elim));let(w,f,M,A,S,g,m):=zz;have:=m [] w [] M (Ext.refl w) S.rs (RDs.nil w) g;rwa[S.heap] at this
  | cons l E=>left
 | .cons e r,k,Z,V,X,E,G,h=>by
  cases E with
  | nil=>left
  | cons l E=>
   change (_&&_)=true at h;erw[Bz9] at h;let(T,R):=Zm c e k Z V X l G h.1.1;let(ir,ib):=V3 c r k Z V X E G h.2;show(PA.imp (Wu T ir (Zu h.1.2)) λx H Q (w,f,M,A,S,g,m)=>?_,λb N=>?_)
   .refine Y4 S g λv B d n j p o u=>?_;show(B,f,n,_,S.next j p,u,λvs J ds P F C Y L=>?_);show m _ J _ P (j.trans F) C (RDs.cons (o.ext F) Y) L
   .cases r with
    | nil=>
     cases E with
     | cons _ _=>show absurd h.2 Bf9
     | nil=>
      show(PE.imp (Yo4 T) λx H Q q=>q,λhn=>?_);have y:noIf e=true:=(Bool.and_eq_true_iff.mp (show(noIf e&&Z94 .nil)=true from hn)).1;cases b with
      | true=>show λa i s x H Q I q=>Ya6 (R y) a i s x H Q I q
      | false=>show λa i s x H Q I q=>Ys7 (R y) a i s x H Q I q
    | cons U C=>
     cases E with
     | nil=>show absurd h.2 Bf9
     | cons l2 E=>
      let(jb,jw):=ib b N;constructor
      .cases b with
       | true=>
        show PE.imp (Yb9 T jb) λx H Q zz=>?_;let(w,f,M,A,S,g,m):=zz;show Y4 S g λv B d n j p o u=>?_;let(z,W,D):=Sz (K:=X.K) (by rw[j.K,S.K,G.eK]) p o u;show(z,W,?_);cases z with
        | true=>rw[nc rfl] at D |-;show Y4 (S.next j p) D (m.ext j)
        | false=>rw[nb Bf9] at D |-;show m _ B _ n j p o D
       | false=>
        show PE.imp (Yk7 T jb) λx H Q zz=>?_;let(w,f,M,A,S,g,m):=zz;show Y4 S g λv B d n j p o u=>?_;let(z,W,D):=Sz (K:=X.K) (by rw[j.K,S.K,G.eK]) p o u;show(z,W,?_);cases z with
        | false=>rw[nc rfl] at D;rw[nb Bf9];show Y4 (S.next j p) D (m.ext j)
        | true=>rw[nb 'd'] at D;rw[nc rfl];show m _ B _ n j p o D
      .intro hn;have y:noIf e=true/\Z94 (.cons U C)=true:=by have:(noIf e&&Z94 (.cons U C))=true:=hn;simpa using this
       have O:=jw y.2;cases b with
       | true=>
        rintro a i s x H Q I ⟨w,f,M,A,S,g,m⟩;show Ym8 (R y.1) O a i s x H Q I ?_;show(w,f,M,λz n=>if z=true then ttD (tbop c Z true (.cons U C)) f n A else A false n,S,?_,λz B n j p u=>?_)
        .show te_bop_tt g
        .cases z with
         | true=>rw[nc rfl] at u |-;show(B,f,n,A,S.next j p,u,λz J P F C L=>m z J P (j.trans F) C L)
         | false=>rw[nb Bf9] at u |-;show m _ B n j p u
       | false=>
        rintro a i s x H Q I ⟨w,f,M,A,S,g,m⟩;show Yz0 (R y.1) O a i s x H Q I ?_;show(w,f,M,λz n=>if z=true then A true n else ttD (tbop c Z false (.cons U C)) f n A,S,?_,λz B n j p u=>?_)
        .show te_bop_ff g
        .cases z with
         | true=>rw[nc rfl] at u |-;show m _ B n j p u
         | false=>rw[nb Bf9] at u |-;show(B,f,n,A,S.next j p,u,λz J P F C L=>m z J P (j.trans F) C L)
theorem N5(c:Cfg):∀t:Eo,Y06 c t
 | .no=>(λk Z b X n G h=>by
   cases n with
   | none=>rintro a s i H Q I ⟨w,f,M,u,S,g,o⟩;show Ye3 a s i H Q I ?_;have:=o none w M (Ext.refl w) S.rs g;rwa[S.heap] at this
   | some _=>left,λk Z b X m G h=>by
   cases m with
   | nil=>show .inr (rfl,rfl)
   | cons _ _=>left)
 | .yes e=>(λk Z b X n G h=>by
   cases n with
   | none=>left
   | some x=>
    rintro a s i H Q I ⟨w,f,M,u,S,g,o⟩;show Yf5 (Zm c e k Z b X x G h).1 a s i H Q I ?_;show Y4 S g λv q d y p r j l=>?_;split at l
    .cases Zk.mp j;show(_,rfl,o _ q y p r l)
    .show l.elim,λk Z b X m G h=>by
   match m,h with
   | [x],h=>change (_&&_)=true at h;erw[Bz9] at h;show .inl (x,rfl,(Zm c e k Z b X x G h.1).2 h.2)
   | [],h=>left
   | _::_::_,h=>left)
theorem Zn6(c:Cfg):∀it:It,Yj9 c it
 | .seq e,k,Z,u,X,z,L,G,h,_=>by
  show PI.imp (Yn3 (Zm c e k Z u X L G h).1) λN H R zz=>?_;let(w,s,M,P,S,g,q):=zz;show Y4 S g λv m d r j n f b=>?_;have o:X.K=m.K:=by rw[j.K,S.K,G.eK]
  ext b itD;split at b
  .let(D,rfl):=Zr.mp f;let(Q,B,A):=b;let(_,p,i,t,_):=n.listL B;rw[<-o] at i;show .inl (_,rfl,(p,i),q _ m _ _ r j n (Zu7 o D) A)
  .let(a,p,rfl,i,t):=Yp.mp f;show .inr (a,rfl,(p,.of i),q _ m _ _ r j n (Zp4 o (.of i) t) b)
  .let(a,p,rfl,i,t):=Vr.mp f;show .inr (a,rfl,(p,by rw[o];show i),q _ m _ _ r j n (Zp4 o i t) b)
  .show b.elim
 | .rng1 a,k,Z,u,X,z,L,G,h,_=>by
  let(x,T,l,C,rfl,h):=T5 h;change (_&&_)=true at h;erw[Bz9,beq_iff_eq,Hn] at h;let((((rfl,J),I),y),E):=h;let(g1,g2,g3):=G.gl J;show PI.imp (Zp5 g1 (G.blt _ I) (Wu (Zm c a k Z u X l G E).1 Th (Zu y)) (Zu y)) λN H R zz=>?_;let(w,s,M,P,S,g,q):=zz;show Y4 S g λv m d r j n f b=>?_;split at b
  .cases Zk.mp f;show(_,rfl,b.1,b.2.1,q _ m _ _ r j n Y78 b.2.2)
  .show b.elim
 | .enm a,k,Z,u,X,z,L,G,h,U=>by
  let(O,V,W,rfl,_):=Ga (F:=λ_=>true) (show Y72 z (λ_=>true)=true by cases z<;>first | rfl | show U);let(x,T,l,C,rfl,h):=T5 h;change (_&&_)=true at h;erw[Bz9,beq_iff_eq,Hn] at h;let((((rfl,J),I),y),E):=h;let(g1,g2,g3):=G.gl J;show PI.imp (Yb1 g1 (G.blt _ I) (Wu (Zm c a k Z u X l G E).1 Th (Zu y)) (Zu y)) λN H R zz=>?_;let(w,s,M,P,S,g,q):=zz;show Y4 S g λv m d r j n f b=>?_;have o:X.K=m.K:=by rw[j.K,S.K,G.eK]
  split at b
  .let(D,rfl):=Zr.mp f;let(Q,B,A):=b;let(_,p,i,t,_):=n.listL B;rw[<-o] at i;show(_,rfl,(p,i),q _ m _ _ r j n (Zq1 o D) A)
  .show b.elim
end
noncomputable def Z07(x:Expr):Bool:= !(x.ctorIdx==8 || x.ctorIdx==9 || x.ctorIdx==10)
def Ej(x:Expr):Bool:=x.ctorIdx !=25
def Y30(x:Expr):Bool:=x.ctorIdx==23
def Zw9(a:Stmt)(F:List Expr->Expr->Bool):Bool:=if q:a.ctorIdx=5 then Stmt.Assign.elim (motive_2:=λ_=>Bool) a q (λb v _=>F b v) else false
def Zj5{a:Stmt}(h:Zw9 a F=true):∃ts v p,a= .Assign ts v p/\F ts v=true:=by let(q,h):=Y2 h;show Stmt.Assign.elim (motive_2:=λa=>∀q:a.ctorIdx=5,Stmt.Assign.elim (motive_2:=λ_=>Bool) a q (λts v _=>F ts v)=true->∃ts v p,a= .Assign ts v p/\F ts v=true) a q (λts v p _ h=>(ts,v,p,rfl,h)) q h
def Bi{a:Stmt}{F:Expr->Expr->Bool}(h:(Zw9 a λts x=>on1 ts λt=>F t x)=true):∃t v p,a= .Assign [t] v p/\F t v=true:=by let(ts,v,p,c,h):=Zj5 h;let(t,b,h):=Rr h;show(t,v,p,by rw[c,b],h)
def Yp3(k:Ck)(t x:Expr):Bool:=Xl t λn=>onLC x λ_ _ a=>k.sc.kind== .function&&k.loc n&&t.pos.line==x.pos.line&&!(a.names.any fun#v[m,j]=>m==n&&(j== .local || j== .cell))
def Yl6(k:Ck)(t x:Expr):Bool:=Xl t λn=>onLC x λ_ _ _=>k.sc.names.lookup n==some .cell
mutual
noncomputable def chkS(k:Ck):S->Stmt->Bool
 | .never,_=>true
 | .ret e,.Return (some x) _=>chkE k e x
 | .expr e,.Expr x _=>Z07 x&&chkE k e x
 | .set d e,g=>Zw9 g λf x=>on1 f λt=>O8 k d t&&chkE k e x&&((Z07 x&&(Y30 t || Ej x)) || (Yp3 k t x&&decide (d.length=1)) || Yl6 k t x)
 | .put o i v,g=>Zw9 g λf x=>on1 f λt=>Zp1 t λl r=>C7 r&&Z07 x&&chkE k v x&&chkE k o l&&chkE k i r
 | .ite t a b,.If x c j _=>chkE k t x&&noIf t&&J9 k a c&&J9 k b j
 | .for_ d h b,.For t x c [] _=>k.calm&&k.loops&&Z80 x&&O8 k d t&&Yc0 k h x&&J9 k b c&&itTg h t
 | .while_ t b,.While x c [] _=>k.loops&&chkE k t x&&noIf t&&J9 k b c
 | _,_=>false
noncomputable def J9(k:Ck):Ss->List Stmt->Bool
 | .nil,[]=>true
 | .cons s r,x::a=>chkS k s x&&J9 k r a
 | _,_=>false
end
section
variable{c:Cfg}{k:Ck}{Z:DX}{w0:Vw}{X:Cx}
def Et{x:Expr}{t:Option Expr}{a:Nat}(h:Z07 x=true):swapsWith x t a env=pure false:=by cases x<;>first | rfl | left
def Fp{f:DS}{i:L2.St}{w:Vw}{g:DEnds}(S:StOk w0 w e M i H)(h:f g e M)
  (n:∀b d a M',Ext w d->RS d M'->REnv d a b->g.nx a M'->R.nx b d.H) (m:Aft w g.rt R.rt)
  (l:∀b d a M',Ext w d->RS d M'->REnv d a b->g.bk a M'->R.bk b d.H)
  (j:∀b d a M',Ext w d->RS d M'->REnv d a b->g.ct a M'->R.ct b d.H):tFS w0 f R i H:=(w,e,M,g,S,h,n,m,l,j)
def Ya7{n:Vw}{J:L2.It}{own:Own}{xs:LD}{u:LQ}{body:DS}{O:Z3}{Y:Hp}{o:DEnv}{l:L2.St}{s:DEnds}{R:Ends}(S:StOk w0 n o O l Y)(jk:JOk n J own xs)
  (h:forD own xs u body xs s o O)
  (U:∀b f a M',Ext n f->RS f M'->REnv f a b->s.nx a M'->R.nx b f.H) (h2:Aft n s.rt R.rt):
  ∃W:Nat->Nat->L2.St->Hp->Prop,(∃m,W 0 m l Y)/\∀i m l H,W i m l H->
   (J.stop i H/\R.nx l H)\/(J.go i H/\∃N:L2.St->Hp->Prop,(∀b H',N b H'->∃T,T<m/\W (i+1) T b H')/\∀x H',J.yld i H x H'->gF w0 u x l H' λg H2=>tFS w0 body {R with nx:=N,ct:=N,bk:=R.nx} g H2):=by
 show(λi m l H=>∃w e M,StOk w0 w e M l H/\Ext n w/\i<=xs.length/\m=xs.length - i/\forD own xs u body (xs.drop i) s e M,(xs.length,n,o,O,S,Ext.refl _,nj _,rfl,h),?_);rintro i m G Hc ⟨w,e,M,j,A,hi,rfl,z⟩;have q:∀y:J3 own xs M,_:=λy=>jk w M A j.rs y i;rw[j.heap] at q;by_cases r:i<xs.length
 .rw[Hv r] at z;let(y,z):=z;let(j1,j2):=(q y).1 xs[i] (Ah r);show .inr (j1,λb H'=>∃w e M,StOk w0 w e M b H'/\Ext n w/\i+1<=xs.length/\forD own xs u body (xs.drop (i+1)) s e M,?_,λx H' hy=>?_)
  .rintro b H' ⟨w2,g,M2,S2,x2,l2,f2⟩;show(xs.length - (i+1),'o',w2,g,M2,S2,x2,l2,rfl,f2)
  .let(Q,rfl,p,V,I):=j2 x H' hy;show(Q,e,M,xs[i],_,(rfl,j.ext.trans p,V,j.env.ext p),I,z,λg P F q2=>?_);have E:∀b f a M',Ext Q f->RS f M'->REnv f a b->forD own xs u body (xs.drop (i+1)) s a M'->
     ∃w e M,StOk w0 w e M b f.H/\Ext n w/\i+1<=xs.length/\forD own xs u body (xs.drop (i+1)) s e M:=
    λb f a M' t B L C=>(f,a,M',(rfl,(j.ext.trans p).trans t,B,L),(A.trans p).trans t,r,C)
   show Fp (rfl,j.ext.trans p,V,F) q2 E (λv f d M' t B K C=>h2 v f d M' ((A.trans p).trans t) B K C)
    (λb f a M' t B L C=>U b f a M' ((A.trans p).trans t) B L C) E
 .rw[List.drop_eq_nil_of_le 'o'] at z;let(y,hq):=z;show .inl ((q y).2 'o',?_);have:=U G w e M A j.rs j.env hq;rwa[j.heap] at this
def Yi8{o i value:Expr}{td ty tv:TE}(hu:X.A.units+1<cLine)(ho:PE X o td)(hi:PE X i ty)(hv:PE X value tv)(hs:swapsWith value (some (.Subscript o i pos')) pos.line X.env=pure false):
  PS X (.Assign [.Subscript o i pos'] value pos) (λR σ H=>tv σ H λv H1=>td σ H1 λx H2=>ty σ H2 λy H3=>Yo5 x y v H3 (λH4=>R.nx σ H4)\/∃a H4,x= .ref a/\DPut H3 a y v H4/\R.nx σ H4):=by
 intro pins s σ H D I h;show wpAny_Assign_Subscript (thn (hv pins s σ H _ I h) λr s1 (v,H1,I1,rv,q1)=>thn (ho pins s1 σ H1 _ I1 q1) λu s2 (x,H2,I2,rx,q2)=>thn (hi pins s2 σ H2 _ I2 q2) λiv s3 zz=>?_) hs;let(y,H3,I3,ry,q3):=zz;rcases q3 with q3|⟨a,H4,ex,g,q3⟩
 .show thn (Zv7 pins s3 σ H3 x y v u iv r (λH4=>D.nx σ H4) I3 rx ry rv q3) λ_ s4 zz=>by let(H4,I4,q4):=zz;show(σ,H4,I4,q4)
 .subst ex;obtain rfl:u=Ay a:=rx;show Zk9 hu I3 g ry rv λs4 I4=>(σ,H4,I4,q3)
end
def Zc3(c:Cfg)(s:S):Prop:=∀(k:Ck) (Z:DX) (a:Vw) (X:Cx) (b:Stmt),Good c k Z a X->chkS k s b=true->PS X b (tFS a (ts c Z s))
def Y67(c:Cfg)(s:Ss):Prop:=∀(k:Ck) (Z:DX) (a:Vw) (X:Cx) (b:List Stmt),Good c k Z a X->J9 k s b=true->PSs X b (tFS a (tss c Z s))
def Za0{k:Ck}{t x:Expr}(h:Yp3 k t x=true):∃n b c a scope p,t= .Name n b/\x= .ListComp c a scope p/\(k.sc.kind== .function&&k.loc n&&t.pos.line==x.pos.line&&!(scope.names.any fun#v[m,j]=>m==n&&(j== .local || j== .cell)))=true:=by let(n,b,e,h):=Xs h;let(c,a,scope,p,d,h):=Qi h;show(n,b,c,a,scope,p,e,d,h)
def Za4{k:Ck}{t x:Expr}(h:Yl6 k t x=true):∃n b c a scope p,t= .Name n b/\x= .ListComp c a scope p/\k.sc.names.lookup n=some .cell:=by let(n,b,e,h):=Xs h;let(c,a,scope,p,d,h):=Qi h;show(n,b,c,a,scope,p,e,d,Kf h)
def Z76{k:Ck}{a:List Comprehension}{p:Pos}(h:chkE k e (.ListComp j a scope p)=true):
  ∃i f d it cd g t iter b,e= .comp i f d it cd g/\a=[(t,iter,b,0)]:=by
 cases e with
 | comp i f d it cd g=>let(_,g0,_,_,c,h):=Qi h;injection c with _ c;let((t,iter,b,n),m,h):=Rr h;let(l,_):=Zf7 h;show(_,_,_,_,_,_,_,_,_,rfl,by rw[c,m,l])
 | _=>left
def Yb2{k:Ck}{b:LQ}{t:Expr}(h:O8 k b t=true):(∃n p,t= .Name n p)\/∃es a p,t= .Tuple es a p:=by
 cases t with
 | Name n p=>show .inl (n,p,rfl)
 | Tuple es a p=>show .inr (es,a,p,rfl)
 | _=>left
def Y83{k:Ck}{a:LQ}{t x:Expr}(b:O8 k a t=true)(c:Y30 t=true\/Ej x=true):swappedStores [t] x env=pure none/\(assignEach [t] env).map (·.2)=[assign t env]:=by
 rcases Yb2 b with⟨n,p,rfl⟩|⟨e,d,p,rfl⟩
 .exact(by cases x<;>rfl,rfl)
 .have:Ej x=true:=c.resolve_left Bf9;show(by cases x<;>first | rfl | show absurd this Bf9,rfl)
def Zi8(c:Cfg)(D:LQ)(e:E):Zc3 c (.set D e):=by
  intro k Z U X st G h;let(t,x,l,rfl,h):=Bi h
  .·change (_&&_)=true at h
    erw[Bz9,Bool.or_eq_true,decide_eq_true_eq] at h;let((o,F),h):=h;rcases h with(⟨hc,r⟩|⟨r,P⟩)|r
    rotate_left 2
    .let(n,K,T,s,a,p,rfl,rfl,B):=Za4 r;have Q:swapsWithSole [.Name n K] (.ListComp T s a p) l.line X.env=pure false:=by
      have hk:X.env.kindOf n=some .cell:=by ext Env.kindOf;rw[G.sc];show B
      have Y:(X.env.kindOf n==some NameKind.local)=false:=by rw[hk];rfl
      unfold swapsWithSole swapsWith;erw[Y,Bool.and_false,Bool.false_and]
     show PS.imp (Y09 (Zm c e k Z U X _ G F).1 (G.tgt D _ o) Q rfl rfl) λR σ H zz=>?_;let(w,b,M,RR,S,q,I,q2,q3,q4):=zz;show Y4 S q λv y d C m A g J=>?_;show(y,b,C,d,_,S.next m A,g,J,λu f e' z=>I u y f C m A e' z)
    .have Q:swapsWithSole [t] x l.line X.env=pure false:=Et hc;let(h2,h3):=Y83 (env:=X.env) o r;show PS.imp (Y09 (Zm c e k Z U X x G F).1 (G.tgt D t o) Q h2 h3) λR σ H zz=>?_;let(w,b,M,RR,S,q,I,q2,q3,q4):=zz;show Y4 S q λv y d C m A g J=>?_;show(y,b,C,d,_,S.next m A,g,J,λu f e' z=>I u y f C m A e' z)
    .match D,P,o with
     | [i],_,o=>
      let(n,K,T,s,a,p,rfl,rfl,r):=Za0 r;let(N',js,D,it,cd,e,V,j,L,rfl,rfl):=Z76 F;change (_&&_)=true at F;erw[Bz9,decide_eq_true_eq] at F;let((((((((Q,h2),h3),h4),h5),h6),h7),h8),h9):=F;change (_&&_)=true at o;erw[Bz9,beq_iff_eq] at o;erw[Bz9,beq_iff_eq,Bool.not_eq_true'] at r;let(((s1,s2),s3),s4):=r;have O:X.env.scope.names.lookup n=some .local:=by ext s2 Ck.loc;rw[G.sc];show Kf s2
      have W:swapsWith (.ListComp T [(V,j,L,0)] a p) (some (.Name n K)) l.line X.env=pure true:=by
       ext swapsWith;have hb:(X.env.blockKind==ScopeKind.function)=true:=by ext Env.blockKind;rw[G.sc,s1];rfl
       have hk:(X.env.kindOf n==some NameKind.local)=true:=by ext Env.kindOf;rw[O];rfl
       have hp:(K.line==(Expr.ListComp T [(V,j,L,0)] a p).pos.line)=true:=by show beq_iff_eq.mpr s3
       erw[hb,hk,hp,s4,Bool.not_false,Bool.and_self]
      show PS.imp ((Oq G Q h2 h3 h5 (Zn6 c it k Z U X V j G h4 h9) h6 h7 h8 (Zm c e) (N5 c cd)).2 i n K l (by rw[G.N];show o.1) O W) λR σ H zz=>?_;let(w,b,M,RR,S,q,I,q2,q3,q4):=zz;have q:te c Z (.comp N' js D it cd e) b M λd M1=>RR.nx (b.set i (some d)) M1:=q;show Y4 S q λv y d C m A g J=>?_;show I _ y _ C m A ((S.env.ext m).set i g) J
     | [],P,_=>simp at P
     | _::_::_,P,_=>simp at P
def Zd3(c:Cfg)(o i v:E):Zc3 c (.put o i v):=by
  intro k Z L X st G h;let(t,x,z0,rfl,h):=Bi h;let(l,r,p,rfl,h):=Si h
  .··change (_&&_)=true at h
     erw[Bz9] at h;let((((h1,h2),h3),h4),h5):=h;show PS.imp (Yi8 (by have:=G.units;lia) (Zm c o k Z L X l G h4).1 (Zm c i k Z L X r G h5).1 (Zm c v k Z L X x G h3).1 (Et h2)) λR F H zz=>?_;let(w,n,M,RR,S,q,P,q2,q3,q4):=zz;show Y4 S q λvv w1 dv M1 e T u W=>?_;show Y4 (S.next e T) W λvo w2 y0 M2 d Y O V=>?_;show Y4 ((S.next e T).next d Y) V λvi w3 di M3 a y s I=>?_;split at I
     .let(z,rfl):=Zr.mp (O.ext a);rcases I with⟨xs,D,j,rfl,B,K,A⟩|⟨Q,D,B,K,A,J⟩|⟨Q,U,B,rfl,A,J⟩
      .cases Zk.mp s;let(z,N,g,f):=y.list B;let(m,C):=X9 y z g (f.set (u.ext (d.trans a)) j);show .inl (_,N,D,j,rfl,rfl,g,by rw[f.length];show K,P F _ n _ (((e.trans d).trans a).trans m) C (S.env.ext (((e.trans d).trans a).trans m)) A)
      .let(z,N,g,f):=y.dict B;cases Eg K s;let(m,C):=Z65 y z g (f.put (k:=D) (u.ext (d.trans a)));show .inr (_,_,rfl,DPut.k (k:=D) g (by rw[f.length];show A),P F _ n _ (((e.trans d).trans a).trans m) C (S.env.ext (((e.trans d).trans a).trans m)) J)
      .let(z,N,g,f):=y.dictP B;let(b,rfl,hb):=Ei s;let(m,C):=Cv y z g (f.put (k:=U) (u.ext (d.trans a)));show .inr (_,_,rfl,DPut.t (k:=U) g hb (by rw[f.length];show A),P F _ n _ (((e.trans d).trans a).trans m) C (S.env.ext (((e.trans d).trans a).trans m)) J)
     .show I.elim
mutual
theorem Yk9(c:Cfg):∀s:S,Zc3 c s
 | .never,k,Z,n,X,B,G,h=>PS.imp Zq8 λR I H zz=>by let(w,p,M,Y,S,q,_):=zz;show q
 | .ret e,k,Z,n,X,B,G,h=>by
  cases B with
  | Return v L=>
   cases v with
   | some x=>show PS.imp (Ys0 (Zm c e k Z n X x G h).1) λR I H zz=>by let(w,p,M,Y,S,q,O,N,T,Q):=zz;show Y4 S q N
   | none=>left
  | _=>left
 | .expr e,k,Z,n,X,B,G,h=>by
  cases B with
  | Expr x L=>change (_&&_)=true at h;erw[Bz9] at h;show PS.imp (Y91 (Zm c e k Z n X x G h.2).1 (Et h.1)) λR I H zz=>by let(w,p,M,Y,S,q,O,N,T,Q):=zz;show Y4 S q λv r d u y A y0 q'=>O I r p u y A (S.env.ext y) q'
  | _=>left
 | .set tg e,k,Z,n,X,B,G,h=>Zi8 c tg e k Z n X B G h
 | .put o i v,k,Z,n,X,B,G,h=>Zd3 c o i v k Z n X B G h
 | .ite t a b,k,Z,n,X,B,G,h=>by
  cases B with
  | If x ls rs L=>
   change (_&&_)=true at h;erw[Bz9] at h;let(((O,N),T),Q):=h;show PS.imp (Yw2 ((Zm c t k Z n X x G O).2 N) (Ro c a k Z n X ls G T) (Ro c b k Z n X rs G Q)) λR I H zz=>?_;let(w,p,M,Y,S,q,V,q2,q3,q4):=zz;show(w,p,M,_,S,q,λz w1 M1 K r1 y1=>?_);have v0:∀{f:DS},f Y p M1->tFS n f R I w1.H:=λhf=>Fp (S.next K r1) hf (λj r g u y A C z=>V j r g u (K.trans y) A C z) (q2.ext K)
    (λj r g u y A C z=>q3 j r g u (K.trans y) A C z) (λj r g u y A C z=>q4 j r g u (K.trans y) A C z)
   cases z with
   | true=>rw[nc rfl] at y1;change if (true:Bool)=true then _ else _;rw[nc rfl];show v0 y1
   | false=>rw[nb Bf9] at y1;change if (false:Bool)=true then _ else _;rw[nb Bf9];show v0 y1
  | _=>left
 | .for_ tg it b,k,Z,n,X,B,G,h=>by
  cases B with
  | For t x ls U L=>
   cases U with
   | nil=>change (_&&_)=true at h;erw[Bz9] at h;let((((((O,N),T),Q),h5),h6),h7):=h;have hf:=Zb9 (env:=X.env) T;show PS.imp (Ym6 (G.po N) (G.calm O) (Zn6 c it k Z n X t x G h5 h7) (G.tgt tg t Q) (Ro c b k Z n X ls G h6) hf) λR I H zz=>?_;let(w,p,M,Y,S,q,V,q2,q3,q4):=zz;show(w,p,M,_,S,q,λJ w1 s0 xs M1 K r1 jk z=>?_);show Ya7 (S.next K r1) jk z (λj r g u y A C z=>V j r g u (K.trans y) A C z) (q2.ext K)
   | cons _ _=>left
  | _=>left
 | .while_ t b,k,Z,n,X,B,G,h=>by
  cases B with
  | While x ls U L=>
   cases U with
   | nil=>
    change (_&&_)=true at h;erw[Bz9] at h;let(((O,N),T),Q):=h;show PS.imp (Zw4 (G.po O) ((Zm c t k Z n X x G N).2 T) (Ro c b k Z n X ls G Q)) λR I H zz=>?_;let(w,p,M,Y,S,q,V,q2,q3,q4):=zz;let(W,(m0,t0),z0):=q;show(λm I H=>∃E l D,StOk n E l D I H/\Ext w E/\W m l D,(m0,w,p,M,S,Ext.refl w,t0),?_);rintro m u0 H2 ⟨E,l,D,S2,x2,hW⟩;show(E,l,D,_,S2,z0 m l D hW,λz w3 M3 P r3 y3=>?_);cases z with
    | false=>rw[nb Bf9] at y3 |-;show V u0 w3 l M3 (x2.trans P) r3 (S2.env.ext P) y3
    | true=>
     rw[nc rfl] at y3 |-;have x0:∀j r g u,Ext w3 r->RS r u->REnv r g j->(∃F,F<m/\W F g u)->∃F,F<m/\∃E l D,StOk n E l D j r.H/\Ext w E/\W F l D:=
      λj r g u y A C zz=>by let(F,l',z'):=zz;show(F,l',r,g,u,(rfl,(S2.ext.trans P).trans y,A,C),(x2.trans P).trans y,z')
     show(λj H'=>∃F,F<m/\∃E l D,StOk n E l D j H'/\Ext w E/\W F l D,λj H' z=>z,?_);show Fp (S2.next P r3) y3 x0 (λv r d u y A y0 z'=>q2 v r d u ((x2.trans P).trans y) A y0 z') (λj r g u y A C z'=>V j r g u ((x2.trans P).trans y) A C z') x0
   | cons _ _=>left
  | _=>left
theorem Ro(c:Cfg):∀s:Ss,Y67 c s
 | .nil,k,Z,m,X,n,G,h=>by
  cases n with
  | nil=>show PSs.imp Yg0 λR t H zz=>?_;let(w,d,M,F,S,q,o,_):=zz;have:=o t w d M (Ext.refl w) S.rs S.env q;rwa[S.heap] at this
  | cons _ _=>left
 | .cons s r,k,Z,m,X,n,G,h=>by
  cases n with
  | nil=>left
  | cons x B=>change (_&&_)=true at h;erw[Bz9] at h;show PSs.imp (Nr (Yk9 c s k Z m X x G h.1) (Ro c r k Z m X B G h.2)) λR t H zz=>?_;let(w,d,M,F,S,q,o,y,v,u):=zz;show Fp S q ?_ y v u;intro A I p J f C E D;show Fp (rfl,S.ext.trans f,C,E) D (λb g a l e i j z=>o b g a l (f.trans e) i j z) (y.ext f) (λb g a l e i j z=>v b g a l (f.trans e) i j z) (λb g a l e i j z=>u b g a l (f.trans e) i j z)
end
theorem FnOk.cx{w:Ue}{K:Aa}{k:Nat}{f:Uc}(F:FnOk P w K mg base CX0 k f c ps sp):FnOk P w K mg base CX k f c ps sp:=
 (F.len,λA a s H b g d Q E l m n i j=>Mf (F.run A a s H b g d Q E l m n i j) λr p h=>by
  cases r with
  | error e=>show Az h
  | ok o=>cases o<;>show h)
structure Prg(P:Ud)(w:Ue)(K:Aa)(mg:Str->Option Ua)(base:Uf)(c:Cfg)(FN GN BN:LS)(lv:Nat):Prop where
 hK:c.K=K
 fns:∀(f:Nat) (x:Str) (sp:DSp),FN[f]?=some x->c.Γ[f]?=some sp->∃(kk:Nat) (f:Uc) (fd:FuncData) (ps:LS) (ds:LW) (dvs:LV) (dD:LD) (sp0:DSp),FnOk P w K mg base (CX1 P w) kk f fd ps (spF K sp0)/\kk<=lv/\At K mg x f/\
  Wt K fd ps ds/\Vals dvs ds/\(∀w:Vw,w.K=K->RDs w dD dvs)/\∀as M Q Z,sp as M Q Z->sp0 (as++dD) M Q Z
 flen:FN.length=c.Γ.length
 glb:∀(g:Nat) (x:Str) (d:D),GN[g]?=some x->c.G[g]?=some d->∃v u,mg x=some u/\RelV v u/\∀w:Vw,w.K=K->RD w d v
 blt:∀x,x∈BN->mg x=none
 mko:Mko P w K mg base/\2<=lv
def start0(N:LS)(a:LD):DEnv:=a.map some++Ds (N.length - a.length) none
def Zl4{w:Vw}{a:LD}(r:RDs w a vs):REnv w (start0 N a) (L2.start N vs):=by
 show(by unfold start0 L2.start;simp[r.length],λi d e=>?_);ext e start0;ext L2.start;by_cases b:i<a.length
 .rw[Dx ↥b,Dj] at e;rw[Dx (by rw[Al,r.length];show b),Dj];cases c:a[i]? with
  | none=>rw[c] at e;cases e
  | some j=>
   rw[c] at e;have h:j=d:=by simpa using e
   subst h;let(v,g,f):=r.get c;show(v,by rw[g];rfl,f)
 .rw[Kk ↥b] at e;have:=Ai.mp e;simp at this
section
variable{P:Ud}{w:Ue}{K:Aa}{mg:Str->Option Ua}{base:Uf}{c:Cfg}{FN GN BN:LS}{lv:Nat}{x qual:Str}{st:Stmt}{f:Uc}{fd:FuncData}{N ps:LS}
abbrev ck0(N:LS)(st:Stmt)(FN GN BN:LS):Ck:=(N,Zi st,FN,GN,BN,true,true,true,[],true,[])
def fn0(e:Prg P w K mg base c FN GN BN lv)(F:Fun K x qual st f fd)(S:FnScope N ps (Zi st)){body:Ss}(J:J9 (ck0 N st FN GN BN) body (Y9 st)=true){sp:DSp}(D:∀b M Q Z,sp b M Q Z->b.length=ps.length)
  (L:∀b M Q Z,sp b M Q Z->tss c noX body {nx:=λ_ M=>Q .non M,rt:=Q} (start0 N b) M):FnOk P w K mg base (CX1 P w) (lv+1) f fd ps (spF K sp):=by
 show FnOk.cx (F.ok S (λB H Q E h=>?_) λu A g s H B Q E p h=>?_)
 .let(w,b,M,v,Z,_,_,_,r,h,_):=h;rw[r.length];show D _ _ _ _ h
 let(j,b,M,v,Z,q,rfl,R,r,h,a,W):=h;have G:Good c (ck0 N st FN GN BN) noX j (cxOf CX0 P w K mg base N qual (Zi st) f u A g s j.H E).nox:=
  {hK:=e.hK.symm
   wK:=q.trans e.hK.symm
   N:=rfl
   nd:=S.nd
   sc:=rfl
   calm:=λ_=>rfl
   units:=p.units
   fns:=λ_ f x sp T O=>by let(C,f,fd,ps,b,t,U,n,F,I,h):=e.fns f x sp T O;show(C,f,fd,ps,b,t,U,n,F,p.mono I,h)
   flen:=e.flen
   glb:=e.glb
   blt:=e.blt
   exc:=(E0,λ_ _ _ _ _ _ _ h=>by
    let(_,_,_,_,_,_,_,_,_,_,_,_,_,_,_,h):=h;show h.elim,λV X Y h=>by
    let(_,_,_,_,_,_,_,_,_,_,_,_,_,h):=h;show h.elim)
   stk:=λ_=>(rfl,rfl)
   po:=λ_=>PassesOwn.never
   fnc:=λ_ _=>rfl
   fno:=λ_ h=>by cases h
   mko:=λ_=>(e.mko.1,p.mono e.mko.2)}
 show(_,Ro c body _ _ j _ _ G J,j,start0 N b,M,{nx:=λ_ M=>v .non M,rt:=v},(rfl,Ext.refl j,R,Zl4 r),L _ _ _ _ h,?_,a,?_,?_)
 .show λi m d y l o z k=>a .non m .non y l o (Ye.mpr rfl) k
 .show λi m d y l o z k=>k.elim
 .show λi m d y l o z k=>k.elim
end
def Z53:DSp:=λb M Q _=>∃a:List Int,b=[.ref 0]/\M=[.frz (a.map .int)]/\a.length<=63/\(∀i∈a,Bits bigN i)/\∀c,Q (.bl true) c
def Z08(w:Vw):∀a:List Int,RDs w (a.map .int) (a.map V.int)
 | []=>RDs.nil w
 | _::r=>RDs.cons (Zk.mpr rfl) (Z08 w r)
def Zs0{l:PySem.W.OpenLaw}{k:Nat}{q:Ud}{XP:(Str->Option Ua)->Uf->Prop}{d:DefRec}{K:Params->Aa}{x:Str}(y:l.most=some 63)(g:d.params.defaults=[])(t:Room k callerA)
  (D:∀(w:Ue) (h:Uf),YP w h->(K w.params).In h)
  (F:∀(w:Ue) (mg:Str->Option Ua) (p:Uc) (h:Uf),(K w.params).In h->h.Ns mainGlobals mg->mg d.name=↑p->
   ∃m:FuncData,(∀(s:Ub) (u:Ua),BindsTo s m ([u],[]) [#v[x,u]])/\∀base:Uf,(K w.params).In base->base.Ns mainGlobals mg->FnOk l.prog w (K w.params) mg base (CX1 l.prog w) k p m [x] (spF (K w.params) Z53)):
  PySem.W.WalkO q loose XP YP l.row.toRowW d [] (λf vs=>PySem.call f vs):=by
 show Yl0 (n:=63) (k:=k) (x:=x) (CX:=λw=>CX1 l.prog w) (sp:=λw=>spF (K w.params) Z53) y 'd' g t D F (λw H a b A C G E=>?_) λw H s e Q h=>?_
 .have I:SqF (K w.params) H a (b.map V.int):=by
   rcases E with(h|⟨o,h⟩)|h
   .rcases G a with z|⟨o,O,z⟩
    .rw[z] at h;cases h
    .rw[z] at h;cases h
   .show .inl (o,h)
   .show .inr (.inr h)
  show((K w.params,H,λ_=>a,1),[.ref 0],[.frz (b.map .int)],λd _=>d= .bl true,noX,rfl,rfl,(rfl,λi j X U M L S R _=>?_,λi Y e=>?_),RDs.cons (Zr.mpr (Nat.one_pos,rfl)) (RDs.nil _),(b,rfl,rfl,A,C,λ_=>rfl),λv P d Z _ _ r e=>?_,λN T H' h=>?_)
  .have c:=(Ai.mp M).1;have J:=(Ai.mp L).1;simp at c J;lia
  .have c:=(Ai.mp e).1;have B:i=0:=by simp at c;show c
   subst B;simp at e;subst e;show(_,I,Z08 _ b)
  .subst e;show Xz.mp r
  .let(_,_,_,_,_,_,_,_,_,_,_,_,_,h):=h;show h.elim
 .let(_,_,_,_,_,_,_,_,_,_,_,_,_,_,_,h):=h;show h.elim
def bot:DSp:=λ_ _ _ _=>False
def Ent(K:Aa)(mg:Str->Option Ua)(x:Str):Prop:=∃(f:Uc) (b:FuncData) (a:LS),At K mg x f/\Wt K b a []
section
variable{P:Ud}{w:Ue}{K:Aa}{mg:Str->Option Ua}{base:Uf}{Γ:List DSp}{G:LD}{FN GN BN:LS}{lv:Nat}
def Prg.zero(n:Mko P w K mg base)(o:∀x∈FN,Ent K mg x)(k:FN.length=Γ.length)(m:∀sp∈Γ,sp=bot)(l:∀(g:Nat) (x:Str) (d:D),GN[g]?=some x->G[g]?=some d->∃v u,mg x=some u/\RelV v u/\∀w:Vw,w.K=K->RD w d v)(p:∀x∈BN,mg x=none):
  Prg P w K mg base (K,Γ,G) FN GN BN 2 where
 hK:=rfl
 fns:=λf x sp r q=>by
  let(y,t,i,B,z):=o x (Df r);have j:sp=bot:=m sp (Df q);subst j;have c:∀a H Q E,¬spF K bot a H Q E:=λa H Q E zz=>by let(_,_,_,_,_,_,_,_,_,h,_):=zz;show h
  show(0,y,t,i,[],[],[],bot,(λa H Q E h=>absurd h (c a H Q E),λA b s H e C a Q E _ _ _ _ h=>absurd h (c a H Q E)),nj _,B,z,.nil,λw _=>RDs.nil w,λ_ _ _ _ h=>h.elim)
 flen:=k
 glb:=l
 blt:=p
 mko:=(n,na _)
def Prg.add(d:Prg P w K mg base (K,Γ,G) FN GN BN lv)(n:Nat){x:Str}{f:Uc}{i:FuncData}(p:FN[n]?=some x)(F:FnOk P w K mg base (CX1 P w) e f i ps (spF K sp))(u:e<=c)(q:lv<=c)(k:At K mg x f)(t:Wt K i ps []):
  Prg P w K mg base (K,Γ.set n sp,G) FN GN BN c where
 hK:=rfl
 fns:=λm y b l a=>by
  by_cases g:n=m
  .subst g;rw[p] at l;cases l;have r:n<Γ.length:=by rw[<-d.flen];show(Ai.mp p).1
   have a:(Γ.set n sp)[n]?=some b:=a;rw[Ex r] at a;cases a;show(e,f,i,ps,[],[],[],sp,F,u,k,t,.nil,λw _=>RDs.nil w,λA M Q Z h=>by rw[Au];show h)
  .have a:(Γ.set n sp)[m]?=some b:=a;rw[Dq g] at a;let(e,f,i,ps,v,o,z,j,F,s,h):=d.fns m y b l a;show(e,f,i,ps,v,o,z,j,F,nh s q,h)
 flen:=by rw[d.flen];simp
 glb:=d.glb
 blt:=d.blt
 mko:=(d.mko.1,nh d.mko.2 q)
end
def Zc{a:Nat}(h:Zg M a=some xs):Zg (M++N) a=some xs:=by
 unfold Zg at *;have b:a<M.length:=by
  cases e:M[a]? with
  | none=>rw[e] at h;cases h
  | some c=>show(Ai.mp e).1
 rw[Dx b];show h
def Z4{a:Nat}(h:Z2 M a=some xs):Z2 (M++N) a=some xs:=by
 unfold Z2 at *;have b:a<M.length:=by
  cases e:M[a]? with
  | none=>rw[e] at h;cases h
  | some c=>show(Ai.mp e).1
 rw[Dx b];show h
def G5{a:Nat}(h:Yk M a=some xs):Yk (M++N) a=some xs:=by
 unfold Yk at *;have b:a<M.length:=by
  cases e:M[a]? with
  | none=>rw[e] at h;cases h
  | some c=>show(Ai.mp e).1
 rw[Dx b];show h
def Zo1(M:Z3)(c:Cell)(N:Z3):(M++c::N)[M.length]?=some c:=by simp
def Zg4(M N:Z3)(k:Nat):(M++N)[M.length+k]?=N[k]?:=by rw[Kk 'o'];congr 1;lia
def Zh(M:Z3)(xs:LD)(N:Z3):Zg (M++ .lst xs::N) M.length=some xs:=by ext Zg;rw[Zo1]
def Z5(M:Z3)(xs:LD)(N:Z3):Z2 (M++ .lst xs::N) M.length=some xs:=by ext Z2;rw[Zo1]
def E2(M:Z3)(xs:KQ9)(N:Z3):Yk (M++ .dct xs::N) M.length=some xs:=by ext Yk;rw[Zo1]
def R9(M N:Z3)(k:Nat):Zg (M++N) (M.length+k)=Zg N k:=by ext Zg;rw[Zg4]
def Zl(M N:Z3)(k:Nat):Z2 (M++N) (M.length+k)=Z2 N k:=by ext Z2;rw[Zg4]
def Rl(M:Z3)(c d:Cell)(N:Z3):(M++c::N).set M.length d=M++d::N:=by rw[List.set_append_right _ _ (na _)];simp
def Zu3(M N:Z3)(k:Nat)(d:Cell):(M++N).set (M.length+k) d=M++N.set k d:=by rw[List.set_append_right _ _ 'o'];congr 2;lia
def Z0{n:Nat}(h:Z2 M n=some xs):Zg M n=some xs:=Yc6 h
def Z8{a b:Nat}(h:b≠a):Z2 (M.set b c) a=Z2 M a:=by ext Z2;rw[Dq h]
def Ge{a b:Nat}(h:b≠a):Yk (M.set b c) a=Yk M a:=by ext Yk;rw[Dq h]
def Zh3{n:Nat}(h:Zg M n=some xs):n<M.length:=by
 ext h Zg;cases e:M[n]? with
 | none=>rw[e] at h;cases h
 | some c=>show(Ai.mp e).1
def Wy{n:Nat}(h:Yk M n=some xs):n<M.length:=by
 ext h Yk;cases e:M[n]? with
 | none=>rw[e] at h;cases h
 | some c=>show(Ai.mp e).1
def Fy{lo:Int}{n i:Nat}(h:i<n):(Ri lo n)[i]?=some (.int (lo+i)):=by ext Ri;rw[Dj,List.getElem?_range h];rfl
def Yv(lo:Int)(n:Nat):(Ri lo n).length=n:=by ext Ri;simp
def Wg{own:Own}{xs:LD}{g:LQ}{body:DS}{R:DEnds}{a:DEnv}{M:Z3}(I:Nat->DEnv->Z3->Prop)(h0:I 0 a M)(m:∀i a M,i<=xs.length->I i a M->J3 own xs M)
  (step:∀(i:Nat) (d:D) a M (C:DEnv->Z3->Prop),xs[i]?=some d->I i a M->(∀b c,I (i+1) b c->C b c)->tgD g d a λf=>body {nx:=C,rt:=R.rt,bk:=R.nx,ct:=C} f M)
  (l:∀a M,I xs.length a M->R.nx a M):forD own xs g body xs R a M:=by
 have k:∀(j:Nat) a M,j<=xs.length->I (xs.length - j) a M->forD own xs g body (xs.drop (xs.length - j)) R a M:=by
  intro j;induction j with
  | zero=>intro a M _ h;rw[Nat.sub_zero] at h |-;rw[List.drop_length];show(m _ a M (na _) h,l a M h)
  | succ j p=>intro a M q h;have n:xs.length - (j+1)<xs.length:='o';have e:xs.length - (j+1)+1=xs.length - j:='o';rw[Hv n];show(m _ a M 'o' h,step _ _ a M _ (Ah n) h λb c o=>?_);rw[e] at o |-;show p b c 'o' o
 have:=k xs.length a M (na _) (by rw[Nat.sub_self];show h0);rwa[Nat.sub_self] at this
def Ji{lo:Int}{n:Nat}{g:LQ}{body:DS}{R:DEnds}{a:DEnv}{M:Z3}(I:Nat->DEnv->Z3->Prop)(h0:I 0 a M)
  (step:∀(i:Nat) a M (C:DEnv->Z3->Prop),i<n->I i a M->(∀b k,I (i+1) b k->C b k)->tgD g (.int (lo+i)) a λc=>body {nx:=C,rt:=R.rt,bk:=R.nx,ct:=C} c M)
  (f:∀a M,I n a M->R.nx a M):forD .no (Ri lo n) g body (Ri lo n) R a M:=by
 show Wg I h0 (λ_ _ _ _ _=>trivial) (λi d a M C e l m=>?_) (λa M h=>f a M (by rw[Yv] at h;show h));have j:i<n:=by have:=(Ai.mp e).1;rwa[Yv] at this
 rw[Fy j] at e;cases e;show step i a M C j l m
def Ta{own:Own}{l:LQ}{z:Nat}{a:DEnv}(I:Nat->DEnv->Z3->Prop)(h0:I 0 a M)(p:∀i a M,i<=xs.length->I i a M->J3 own xs M)
  (step:∀(i:Nat) (d:D) a M (C:DEnv->Z3->Prop),xs[i]?=some d->I i a M->(∀c g,I (i+1) c g->C c g)->tgD l d a λf=>cd f M λb s=>if b=true then
   m f s λy g=>∃k,Z2 g z=some k/\k.length<sizeLine/\C f (g.set z (.lst (k++[y]))) else C f s)
  (o:∀a M,I xs.length a M->Q M):Gx own xs l cd m z xs a M Q:=by
 have n:∀(j:Nat) a M,j<=xs.length->I (xs.length - j) a M->Gx own xs l cd m z (xs.drop (xs.length - j)) a M Q:=by
  intro j;induction j with
  | zero=>intro a M _ h;rw[Nat.sub_zero] at h |-;rw[List.drop_length];show(p _ a M (na _) h,o a M h)
  | succ j t=>intro a M u h;have q:xs.length - (j+1)<xs.length:='o';have e:xs.length - (j+1)+1=xs.length - j:='o';rw[Hv q];show(p _ a M 'o' h,step _ _ a M (λc g=>Gx own xs l cd m z (xs.drop (xs.length - (j+1)+1)) c g Q) (Ah q) h λc g r=>?_);rw[e] at r |-;show t c g 'o' r
 have:=n xs.length a M (na _) (by rw[Nat.sub_self];show h0);rwa[Nat.sub_self] at this
def Bh{c:Cfg}{X:DX}{t:E}{b:Ss}{R:DEnds}{d:DEnv}{M:Z3}(I:DEnv->Z3->Prop)(g:DEnv->Z3->Nat)(h0:I d M)
  (step:∀d M,I d M->tt c X t d M λr n=>if r=true then tss c X b {nx:=λa f=>I a f/\g a f<g d M,rt:=R.rt,bk:=R.nx,ct:=λa f=>I a f/\g a f<g d M} d n else R.nx d n):
  ts c X (.while_ t b) R d M:=by
 show(λm d M=>m=g d M/\I d M/\True,(_,rfl,h0,trivial),?_);rintro m d M ⟨rfl,o,_⟩;have e:∀h l,(fun(a:DEnv) (f:Z3)=>∃i,i<g h l/\i=g a f/\I a f/\True)=λa f=>I a f/\g a f<g h l:=by
  intro h l;funext a f;apply propext;constructor
  .rintro⟨i,k,rfl,j,_⟩;show(j,k)
  .rintro⟨k,j⟩;show(_,j,rfl,k,trivial)
 rw[e d M];show step d M o
def mulR{i j:Int}(b:-(2 ^ 64)<j)(a:j<2 ^ 64):IntMulOk i j:=CMul.ok (.inr (b,a))
def mulL{i j:Int}(b:-(2 ^ 64)<i)(a:i<2 ^ 64):IntMulOk i j:=CMul.ok (.inl (b,a))
def Y1{i j:Int}(c:0<j)(b:j<2 ^ 64):Z54 i j:=by show('o',?_);have a:j.natAbs<2 ^ 64:='o';show Nat.lt_trans (Za1 a 'd') 'd'
def Zp3{i j:Int}(h:0<=j/\j<=1000000/\i.natAbs<2 ^ 64):CPow i j:=h
def Z1{n:Nat}(h:n<=16000000):n<=sizeLine:=by rw[Lf];lia
def Za{n:Nat}(h:n<=16000000):n<sizeLine:=by rw[Lf];lia
section
variable{M:Z3}{Q:DK}{B:Bool->Prop}{i j:Int}{a b:Str}{p q:Bool}{xs ys:LD}{n m:Nat}{K:Aa}
def op_add_i:opD .add (.int i) (.int j) M Q=Q (.int (i+j)) M:=rfl
def op_add_s:opD .add (.str a) (.str b) M Q=(a.length+b.length<=sizeLine/\Q (.str (a++b)) M):=rfl
def op_add_t:opD .add (.tup xs) (.tup ys) M Q=(xs≠[]/\xs.length+ys.length<=sizeLine/\Q (.tup (xs++ys)) M):=rfl
def op_add_l:opD .add (.ref n) (.ref m) M Q=∃xs ys,Z2 M n=some xs/\Z2 M m=some ys/\xs.length+ys.length<=sizeLine/\Q (.ref M.length) (M++[.lst (xs++ys)]):=rfl
def op_sub_i:opD .sub (.int i) (.int j) M Q=Q (.int (i - j)) M:=rfl
def op_mul_i:opD .mul (.int i) (.int j) M Q=(IntMulOk i j/\Q (.int (i * j)) M):=rfl
def op_mul_l:opD .mul (.ref n) (.int i) M Q=∃xs,Z2 M n=some xs/\0<=i/\i<2 ^ 62/\xs.length * i.toNat<=sizeLine/\Q (.ref M.length) (M++[.lst (Ds i.toNat xs).flatten]):=rfl
def op_fdiv_i:opD .fdiv (.int i) (.int j) M Q=(Z54 i j/\Q (.int (qdiv i j)) M):=rfl
def op_mod_i:opD .mod (.int i) (.int j) M Q=(j≠0/\Q (.int (qmod i j)) M):=rfl
def op_pow_i:opD .pow (.int i) (.int j) M Q=(CPow i j/\Q (.int (i ^ j.toNat)) M):=rfl
def cm_lt_i:cmD M .lt (.int i) (.int j) B=B (decide (i<j)):=rfl
def cm_gt_i:cmD M .gt (.int i) (.int j) B=B (decide (j<i)):=rfl
def cm_eq{x y:D}:cmD M .eq x y B=eqD M x y B:=rfl
def cm_ne{x y:D}:cmD M .ne x y B=eqD M x y λb=>B (!b):=rfl
def cm_in{x y:D}:cmD M .isin x y B=inQ M x y B:=rfl
def cm_notin{x y:D}:cmD M .notin x y B=inQ M x y λb=>B (!b):=rfl
def cm_is_n:cmD M .is .non .non B=B true:=rfl
def cm_is_i:cmD M .is (.int i) .non B=B false:=rfl
def cm_is_s:cmD M .is (.str a) .non B=B false:=rfl
def cm_is_b:cmD M .is (.bl p) .non B=B false:=rfl
def cm_is_t:cmD M .is (.tup xs) .non B=B false:=rfl
def cm_is_r:cmD M .is (.ref n) .non B=B false:=rfl
def eq_i:eqD M (.int i) (.int j) B=B (decide (i=j)):=rfl
def eq_s:eqD M (.str a) (.str b) B=B (decide (a=b)):=rfl
def eq_b:eqD M (.bl p) (.bl q) B=B (decide (p=q)):=rfl
def eq_nn:eqD M .non .non B=B true:=rfl
def eq_is:eqD M (.int i) (.str b) B=B false:=rfl
def eq_si:eqD M (.str b) (.int i) B=B false:=rfl
def tru_b:truD M (.bl p) B=B p:=rfl
def tru_i:truD M (.int i) B=B (i !=0):=rfl
def tru_n:truD M .non B=B false:=rfl
def tru_t:truD M (.tup xs) B=B (!xs.isEmpty):=rfl
def ix_t:ixD M (.tup xs) (.int i) F=∃d,atI xs i=some d/\F d:=rfl
def ix_g:ixD M (.gtup xs) (.int i) F=∃d,atI xs i=some d/\F d:=rfl
def ix_s:ixD M (.str a) (.int i) F=(a.length<=sizeLine/\∃c,atI a.cps.toList i=some c/\F (.str ⟨#[c]⟩)):=rfl
def ix_l{k:Nat}(h:Zg M n=some xs){d:D}(hd:xs[k]?=some d)(c:F d):ixD M (.ref n) (.int k) F:= .inl (xs,k,d,rfl,h,Wi hd,c)
def Xe(h:Zg M n=some xs){d:D}(hd:atI xs i=some d)(c:F d):ixD M (.ref n) (.int i) F:= .inl (xs,i,d,rfl,h,hd,c)
def ix_d{k:D}{y:Key}(h:Yk M n=some kvs)(c:keyD k=some y){d:D}(hd:valD kvs y=some d)(e:F d):ixD M (.ref n) k F:= .inr (.inl (kvs,y,d,Yg8 h,c,hd,e))
def sl_s{lo hi:Option Int}:slD (.str a) lo hi M Q=(a.length<=sizeLine/\Q (.str (Txt.slice a lo hi)) M):=rfl
def sl_t{lo hi:Option Int}:slD (.tup xs) lo hi M Q=(¬(HT.sIx xs.length 0 lo=0/\HT.sIx xs.length xs.length hi=xs.length)/\Q (.tup (cutD xs lo hi)) M):=rfl
def sl_l{lo hi:Option Int}:slD (.ref n) lo hi M Q=∃xs,Zg M n=some xs/\Q (.ref M.length) (M++[.lst (cutD xs lo hi)]):=rfl
def tyNon:Ty->Bool:=λ_=>false
def tyBl:Ty->Bool
 | .bool=>true | .int=>true | _=>false
def tyInt:Ty->Bool
 | .int=>true | _=>false
def tyStr:Ty->Bool
 | .str=>true | _=>false
def tyTup:Ty->Bool
 | .tuple=>true | _=>false
def tyLst:Ty->Bool
 | .list=>true | _=>false
def tyDct:Ty->Bool
 | .dict=>true | _=>false
def N9{d:D}{t:Ty}{s:String}(hd:∀e C o r,d≠ .exn e C o r)(g:tyD M d=some s)(f:Ka K (.type s) (.type (Yo t))=some v):isD K M d (.ty (Yo t)) B=B v:=by
 have:isD K M d (.ty (Yo t)) B=∃c b,tyD M d=some c/\Ka K (.type c) (.type (Yo t))=some b/\B b:=by cases d<;>first | rfl | show absurd rfl (hd _ _ _ _)
 rw[this];apply propext;constructor
 .rintro⟨c,b,l,k,h⟩;rw[g] at l;cases l;rw[f] at k;cases k;show h
 .intro h;show(s,v,g,f,h)
def is_non{t:Ty}:isD K M .non (.ty (Yo t)) B=B (tyNon t):=N9 (λ_ _ _ _ h=>nomatch h) rfl (by cases t<;>rfl)
def is_bl{t:Ty}:isD K M (.bl p) (.ty (Yo t)) B=B (tyBl t):=N9 (λ_ _ _ _ h=>nomatch h) rfl (by cases t<;>rfl)
def is_int{t:Ty}:isD K M (.int i) (.ty (Yo t)) B=B (tyInt t):=N9 (λ_ _ _ _ h=>nomatch h) rfl (by cases t<;>rfl)
def is_str{t:Ty}:isD K M (.str a) (.ty (Yo t)) B=B (tyStr t):=N9 (λ_ _ _ _ h=>nomatch h) rfl (by cases t<;>rfl)
def is_tup{t:Ty}:isD K M (.tup xs) (.ty (Yo t)) B=B (tyTup t):=N9 (λ_ _ _ _ h=>nomatch h) rfl (by cases t<;>rfl)
def Nl{t:Ty}(h:Z2 M n=some xs):isD K M (.ref n) (.ty (Yo t)) B=B (tyLst t):=N9 (s:="list") (λ_ _ _ _ h=>nomatch h) (by erw[tyD,Jo h]) (by cases t<;>rfl)
def Zv(h:Zg M n=some xs)(c:Q (.int xs.length) M):bfD K .len [.ref n] M Q:= .inl (xs,h,c)
def bf_len_t:bfD K .len [.tup xs] M Q=Q (.int xs.length) M:=rfl
def bf_len_s:bfD K .len [.str a] M Q=(a.length<=sizeLine/\Q (.int a.length) M):=rfl
def bf_is{d c:D}:bfD K .isinst [d,c] M Q=isD K M d c λb=>Q (.bl b) M:=rfl
def bf_tuple:bfD K .tuple1 [.ref n] M Q=∃xs,Zg M n=some xs/\Q (.tup xs) M:=rfl
def bf_dict:bfD K .dict1 [.ref n] M Q=((∃xs,Yk M n=some xs/\Q (.ref M.length) (M++[.dct xs]))\/(∃ps:KQ9,Zg M n=some (Sc ps)/\ps.length<sizeLine/\Q (.ref M.length) (M++[.dct (Od ps)]))):=rfl
def on_ref:Jm (.ref n) F=F n:=rfl
def set_f:setD false n M Q=∃ks:List Key,Zg M n=some (ks.map kD)/\ks.length+1<scanBound/\∀c:List Key,c.Nodup->(∀k,k∈c↔k∈ks)->Q (.int c.length) M:=rfl
def mt_popi_r{k:D}:mtD .popi (.ref n) [k] M Q=∃xs d,∃j:Nat,k= .int j/\Z2 M n=some xs/\xs[j]?=some d/\Q d (M.set n (.lst (xs.eraseIdx j))):=rfl
def mk_popi:mtK .popi (.ref n) M=((Zg M n).isSome=true):=rfl
def ati0{c:Type}{x:c}{l:List c}:atI (x::l) 0=some x:=Wi (j:=0) rfl
def ati1{c:Type}{x y:c}{l:List c}:atI (x::y::l) 1=some y:=Wi (j:=1) rfl
def ati2{c:Type}{x y z:c}{l:List c}:atI (x::y::z::l) 2=some z:=Wi (j:=2) rfl
def ofS_inj{a b:String}:(Str.ofString a=Str.ofString b)=(a=b):=by
 apply propext;constructor
 .intro h;rw[Str.ofString_eq_toList,Str.ofString_eq_toList] at h;have h1:=congrArg (λs:Str=>s.cps.toList) h;simp only at h1;have inj:∀{l m:List Char},l.map Char.toNat=m.map Char.toNat->l=m:=by
   intro l;induction l with
   | nil=>intro m h;cases m<;>simp_all
   | cons c l ih=>
    intro m h;cases m with
    | nil=>simp at h
    | cons e m=>rw[Aj,Aj,List.cons.injEq] at h;rw[ih h.2,Char.toNat_inj.mp h.1]
  show String.toList_inj.mp (inj h1)
 .intro h;rw[h]
def ati3{c:Type}{x y z u:c}{l:List c}:atI (x::y::z::u::l) 3=some u:=Wi (j:=3) rfl
def ati4{c:Type}{x y z u v:c}{l:List c}:atI (x::y::z::u::v::l) 4=some v:=Wi (j:=4) rfl
def ati5{c:Type}{x y z u v w:c}{l:List c}:atI (x::y::z::u::v::w::l) 5=some w:=Wi (j:=5) rfl
def mt_append_r{d:D}:mtD .append (.ref n) [d] M Q=∃xs,Z2 M n=some xs/\xs.length<sizeLine/\Q .non (M.set n (.lst (xs++[d]))):=rfl
def mt_pop_r:mtD .pop0 (.ref n) [] M Q=∃xs d,Z2 M n=some xs/\xs[xs.length - 1]?=some d/\Q d (M.set n (.lst xs.dropLast)):=rfl
def mt_extend_t:mtD .extend (.ref n) [.tup c] M Q=∃xs,Z2 M n=some xs/\xs.length+c.length<=sizeLine/\Q .non (M.set n (.lst (xs++c))):=rfl
def mt_extend_r:mtD .extend (.ref n) [.ref m] M Q=∃xs ys,Z2 M n=some xs/\Z2 M m=some ys/\xs.length+ys.length<=sizeLine/\Q .non (M.set n (.lst (xs++ys))):=rfl
def mk_extend:mtK .extend (.ref n) M=((Zg M n).isSome=true):=rfl
def mk_append:mtK .append (.ref n) M=((Zg M n).isSome=true):=rfl
def mk_pop:mtK .pop0 (.ref n) M=((Zg M n).isSome=true):=rfl
def tg_one{k:Nat}{d:D}:tgD [k] d c F=F (c.set k (some d)):=by cases d<;>rfl
def tg_two{k l:Nat}{d e:D}:tgD [k,l] (.tup [d,e]) c F=F ((c.set k (some d)).set l (some e)):=by show([d,e].length=[k,l].length/\F _)=_;simp
def it_r:itD M (.ref n) R=∃xs,Zg M n=some xs/\R (.lst n) xs:=rfl
def it_t:itD M (.tup xs) R=R .no xs:=rfl
def it_g:itD M (.gtup xs) R=R .no xs:=rfl
def key_i:keyD (.int i)=some (.inl i):=rfl
def key_s:keyD (.str a)=some (.inr a):=rfl
def in_ss:inQ M (.str a) (.str b) B=B (!(Lb b a 0 b.length 1).isEmpty):=rfl
end
def Ze{a:Type}{o:Option a}{x:a}(h:o=some x):o.isSome=true:=by rw[h];rfl
def Y32{a:Type}{P:List a->Prop}(h:P [])(l:List a)(e:l.length=0):P l:=by
 cases l with
 | nil=>show h
 | cons _ _=>cases e
def Bo{b:Type}{n:Nat}{P:List b->Prop}(h:∀a l,l.length=n->P (a::l))(l:List b)(e:l.length=n+1):P l:=by
 cases l with
 | nil=>cases e
 | cons a r=>show h a r (Nat.succ.inj e)
def Y25{b:Type}{P:List b->Prop}(h:∀a,P [a]):∀l:List b,l.length=1->P l:=Bo λa=>Y32 (h a)
def Y36{c:Type}{P:List c->Prop}(h:∀a b,P [a,b]):∀l:List c,l.length=2->P l:=Bo λa=>Y25 (P:=λl=>P (a::l)) (h a)
def Yl5{d:Type}{P:List d->Prop}(h:∀a b c,P [a,b,c]):∀l:List d,l.length=3->P l:=Bo λa=>Y36 (P:=λl=>P (a::l)) (h a)
def all_nil{a:Type}{P:a->Prop}:∀x∈([]:List a),P x:=λ_ h=>absurd h Ia
def all_cons{b:Type}{P:b->Prop}{a:b}{l:List b}(h:P a)(t:∀x∈l,P x):∀x∈a::l,P x:=λx c=>(Ab.mp c).elim (λe=>e ▸ h) (t x)
end U
namespace ND
end ND
namespace LN
end LN
namespace TD
inductive Fm (α:Type) where
 | nil | act (a:α) (r:Fm α) | fin (a:α) (r:Fm α) | lv (n:Nat) (r:Fm α) | ag (n:Nat) (r:Fm α)
 | ch (a:α) (y n r:Fm α) | rd (k:Nat) (b r:Fm α) | pt (k:Nat) (b r:Fm α)
variable{α:Type}
def app:Fm α->Fm α->Fm α
 | .nil,t=>t
 | .act a r,t=> .act a (app r t)
 | .fin a r,t=> .fin a (app r t)
 | .lv n r,t=> .lv n (app r t)
 | .ag n r,t=> .ag n (app r t)
 | .ch a y n r,t=> .ch a y n (app r t)
 | .rd k b r,t=> .rd k b (app r t)
 | .pt k b r,t=> .pt k b (app r t)
def hl(k:Nat):Fm α->Bool
 | .nil=>false
 | .act _ r=>hl k r
 | .fin _ r=>hl k r
 | .lv n r=>decide (n=k) || hl k r
 | .ag _ r=>hl k r
 | .ch _ y n r=>hl k y || hl k n || hl k r
 | .rd _ b r=>hl k b || hl k r
 | .pt _ b r=>hl k b || hl k r
def ha(k:Nat):Fm α->Bool
 | .nil=>false
 | .act _ r=>ha k r
 | .fin _ r=>ha k r
 | .lv _ r=>ha k r
 | .ag n r=>decide (n=k) || ha k r
 | .ch _ y n r=>ha k y || ha k n || ha k r
 | .rd _ b r=>ha k b || ha k r
 | .pt _ b r=>ha k b || ha k r
def nums:Fm α->LQ
 | .nil=>[]
 | .act _ r=>nums r
 | .fin _ r=>nums r
 | .lv _ r=>nums r
 | .ag _ r=>nums r
 | .ch _ y n r=>nums y++nums n++nums r
 | .rd k b r=>k::(nums b++nums r)
 | .pt k b r=>k::(nums b++nums r)
def isNil:Fm α->Bool
 | .nil=>true
 | _=>false
def cut(w:Bool)(k:Nat):Fm α->Fm α
 | .nil=> .nil
 | .act a r=> .act a (cut w k r)
 | .fin a r=> .fin a (cut w k r)
 | .lv n r=>if w&&decide (n=k)&&isNil r then .nil else .lv n (cut w k r)
 | .ag n r=>if !w&&decide (n=k)&&isNil r then .nil else .ag n (cut w k r)
 | .ch a y n r=>if isNil (cut w k r) then .ch a (cut w k y) (cut w k n) .nil else .ch a y n (cut w k r)
 | .rd m b r=> .rd m b (cut w k r)
 | .pt m b r=> .pt m b (cut w k r)
def sub(k m:Nat):Fm α->Fm α
 | .nil=> .nil
 | .act a r=> .act a (sub k m r)
 | .fin a r=> .fin a (sub k m r)
 | .lv n r=> .lv (if n=k then m else n) (sub k m r)
 | .ag n r=> .ag n (sub k m r)
 | .ch a y n r=> .ch a (sub k m y) (sub k m n) (sub k m r)
 | .rd j b r=> .rd j (sub k m b) (sub k m r)
 | .pt j b r=> .pt j (sub k m b) (sub k m r)
def one(k:Nat)(b:Fm α):Fm α:=match b with
 | .rd m c .nil=>sub k m (.rd m c .nil)
 | b=> .pt k b .nil
def clsP(k:Nat)(b:Fm α)(g:Bool):Fm α×Bool:=if hl k (cut true k b) then#v[one k (cut true k b),true] else#v[cut true k b,g || hl k b]
def clsR(k:Nat)(b:Fm α)(g:Bool):Fm α×Bool:=if g || ha k b then#v[.rd k (cut false k b) .nil,hl k (cut false k b)] else clsP k b false
def td:Fm α->Fm α×Bool
 | .nil=>#v[.nil,true]
 | .act a r=>#v[.act a (td r).1,(td r).2]
 | .fin a _=>#v[.fin a .nil,false]
 | .lv n _=>#v[.lv n .nil,false]
 | .ag n _=>#v[.ag n .nil,false]
 | .ch a y n r=>if (td y).2 || (td n).2 then#v[.ch a (td y).1 (td n).1 (td r).1,(td r).2] else#v[.ch a (td y).1 (td n).1 .nil,false]
 | .rd k b r=>if (clsR k (td b).1 (td b).2).2 then#v[app (clsR k (td b).1 (td b).2).1 (td r).1,(td r).2] else#v[(clsR k (td b).1 (td b).2).1,false]
 | .pt k b r=>if (clsP k (td b).1 (td b).2).2 then#v[app (clsP k (td b).1 (td b).2).1 (td r).1,(td r).2] else#v[(clsP k (td b).1 (td b).2).1,false]
def isNil_eq{s:Fm α}(h:isNil s=true):s= .nil:=by cases s<;>first | rfl | cases h
def Vs(w:Bool)(k:Nat)(s:Fm α):nums (cut w k s)=nums s:=by
 induction s with
 | nil=>rfl
 | act a r e=>show e
 | fin a r e=>show e
 | lv n r e=>
  erw[cut];split
  .rename_i c;erw[Bz9] at c;rw[isNil_eq c.2];rfl
  .show e
 | ag n r e=>
  erw[cut];split
  .rename_i c;erw[Bz9] at c;rw[isNil_eq c.2];rfl
  .show e
 | ch a y n r f g d=>
  erw[cut];split
  .rename_i c;have q:=isNil_eq c;rw[q] at d;erw[nums];rw[f,g,<-d];rfl
  .simp only[nums];rw[d]
 | rd m b r _ d=>erw[cut,nums];rw[d]
 | pt m b r _ d=>erw[cut,nums];rw[d]
def Zr7(k m:Nat)(s:Fm α):nums (sub k m s)=nums s:=by
 induction s with
 | nil=>rfl
 | act a r c=>show c
 | fin a r c=>show c
 | lv n r c=>show c
 | ag n r c=>show c
 | ch a y n r f g d=>erw[sub,nums];rw[f,g,d]
 | rd j b r e d=>erw[sub,nums];rw[e,d]
 | pt j b r e d=>erw[sub,nums];rw[e,d]
def Y10(j k m:Nat)(s:Fm α):ha j (sub k m s)=ha j s:=by
 induction s with
 | nil=>rfl
 | act a r c=>show c
 | fin a r c=>show c
 | lv n r c=>show c
 | ag n r c=>erw[sub,ha];rw[c]
 | ch a y n r f g d=>erw[sub,ha];rw[f,g,d]
 | rd j b r e d=>erw[sub,ha];rw[e,d]
 | pt j b r e d=>erw[sub,ha];rw[e,d]
def nums_app(s t:Fm α):nums (app s t)=nums s++nums t:=by
 induction s with
 | nil=>rfl
 | act a r c=>show c
 | fin a r c=>show c
 | lv n r c=>show c
 | ag n r c=>show c
 | ch a y n r _ _ d=>erw[app,nums];rw[d];simp
 | rd k b r _ d=>erw[app,nums];rw[d];simp
 | pt k b r _ d=>erw[app,nums];rw[d];simp
set_option tactic.hygienic true in
def Zv9(k:Nat)(b:Fm α):(nums (one k b)).Sublist (k::nums b):=by
 ext one;split
 .rename_i m c;rw[Zr7];show List.Sublist.cons _ (Ll _)
 .simp only[nums,Au];show Ll _
def Gg(k:Nat)(b:Fm α)(g:Bool):(nums (clsP k b g).1).Sublist (k::nums b):=by
 ext clsP;split
 .have:=Zv9 k (cut true k b);rwa[Vs] at this
 .rw[Vs];show List.Sublist.cons _ (Ll _)
def Zg0(k:Nat)(b:Fm α)(g:Bool):(nums (clsR k b g).1).Sublist (k::nums b):=by
 ext clsR;split
 .simp only[nums,Au];rw[Vs];show Ll _
 .show Gg k b false
def Ve(s:Fm α):(nums (td s).1).Sublist (nums s):=by
 induction s with
 | nil=>show Ll _
 | act a r g=>show g
 | fin a r _=>show Il _
 | lv n r _=>show Il _
 | ag n r _=>show Il _
 | ch a y n r e f c=>
  erw[td];split
  .exact(e.append f).append c
  .exact(e.append f).append (Il _)
 | rd k b r d c=>
  have q:=(Zg0 k (td b).1 (td b).2).trans (Li k d);erw[td];split
  .rw[nums_app];show q.append c
  .show q.trans (by erw[nums];show Li k (Kx _ _))
 | pt k b r d c=>
  have q:=(Gg k (td b).1 (td b).2).trans (Li k d);erw[td];split
  .rw[nums_app];show q.append c
  .show q.trans (by erw[nums];show Li k (Kx _ _))
end TD
namespace TD
variable{α:Type}
inductive Rw (α:Type) where
 | act (a:α) | fin (a:α) | tst (a:α) (y:Nat) | jmp (g:Nat)
def sz:Fm α->Nat
 | .nil=>0
 | .act _ r=>1+sz r
 | .fin _ r=>1+sz r
 | .lv _ r=>1+sz r
 | .ag _ r=>1+sz r
 | .ch _ y n r=>2+sz y+(if isNil n then 0 else 1+sz n)+sz r
 | .rd _ b r=>sz b+1+sz r
 | .pt _ b r=>sz b+sz r
abbrev Ep:=Nat->Nat×Nat
def upE(e:Ep)(k x y:Nat):Ep:=λn=>if n=k then#v[x,y] else e n
def rws:Fm α->Nat->Ep->List (Rw α)
 | .nil,_,_=>[]
 | .act a r,o,E=> .act a::rws r (o+1) E
 | .fin a r,o,E=> .fin a::rws r (o+1) E
 | .lv n r,o,E=> .jmp (E n).1::rws r (o+1) E
 | .ag n r,o,E=> .jmp (E n).2::rws r (o+1) E
 | .ch a y n r,o,E=>
  if isNil n then .tst a (o+2):: .jmp (o+2+sz y)::(rws y (o+2) E++rws r (o+2+sz y) E)
  else .tst a (o+2):: .jmp (o+3+sz y)::(rws y (o+2) E++(.jmp (o+3+sz y+sz n)::(rws n (o+3+sz y) E++rws r (o+3+sz y+sz n) E)))
 | .rd k b r,o,E=>rws b o (upE E k (o+sz b+1) o)++(.jmp o::rws r (o+sz b+1) E)
 | .pt k b r,o,E=>rws b o (upE E k (o+sz b) (E k).2)++rws r (o+sz b) E
end TD
namespace TD
variable{α:Type}
end TD
namespace TD
variable{α:Type}
def FL(n:Nat):Fm α->Prop
 | .nil=>False
 | .act _ r=>FL n r
 | .fin _ r=>FL n r
 | .lv m r=>n=m\/FL n r
 | .ag _ r=>FL n r
 | .ch _ y m r=>FL n y\/FL n m\/FL n r
 | .rd k b r=>(n≠k/\FL n b)\/FL n r
 | .pt k b r=>(n≠k/\FL n b)\/FL n r
def FA(n:Nat):Fm α->Prop
 | .nil=>False
 | .act _ r=>FA n r
 | .fin _ r=>FA n r
 | .lv _ r=>FA n r
 | .ag m r=>n=m\/FA n r
 | .ch _ y m r=>FA n y\/FA n m\/FA n r
 | .rd k b r=>(n≠k/\FA n b)\/FA n r
 | .pt _ b r=>FA n b\/FA n r
end TD
namespace TD
variable{α:Type}
end TD
namespace TD
variable{α:Type}
def acts:Fm α->List α
 | .nil=>[]
 | .act a r=>a::acts r
 | .fin a r=>a::acts r
 | .lv _ r=>acts r
 | .ag _ r=>acts r
 | .ch a y n r=>a::(acts y++acts n++acts r)
 | .rd _ b r=>acts b++acts r
 | .pt _ b r=>acts b++acts r
def acts_cut(w:Bool)(k:Nat)(s:Fm α):acts (cut w k s)=acts s:=by
 induction s with
 | nil=>rfl
 | act a r c=>erw[cut,acts,c]
 | fin a r c=>erw[cut,acts,c]
 | lv n r c=>
  erw[cut];split
  .rename_i h;erw[Bz9] at h;rw[isNil_eq h.2];rfl
  .show c
 | ag n r c=>
  erw[cut];split
  .rename_i h;erw[Bz9] at h;rw[isNil_eq h.2];rfl
  .show c
 | ch a y n r g f d=>
  erw[cut];split
  .rename_i h;have e:=isNil_eq h;rw[e] at d;simp only[acts,g,f,<-d]
  .simp only[acts,d]
 | rd m b r _ c=>erw[cut,acts,c]
 | pt m b r _ c=>erw[cut,acts,c]
def Zw5(k m:Nat)(s:Fm α):acts (sub k m s)=acts s:=by
 induction s with
 | nil=>rfl
 | act a r c=>erw[sub,acts,c]
 | fin a r c=>erw[sub,acts,c]
 | lv n r c=>show c
 | ag n r c=>show c
 | ch a y n r e d f=>erw[sub,acts,e,d,f]
 | rd j b r e d=>erw[sub,acts,e,d]
 | pt j b r e d=>erw[sub,acts,e,d]
def acts_app(s t:Fm α):acts (app s t)=acts s++acts t:=by
 induction s with
 | nil=>rfl
 | act a r c=>erw[app,acts,c,Dh]
 | fin a r c=>erw[app,acts,c,Dh]
 | lv n r c=>show c
 | ag n r c=>show c
 | ch a y n r _ _ c=>erw[app,acts,c,Dh,An]
 | rd k b r _ c=>erw[app,acts,c,An]
 | pt k b r _ c=>erw[app,acts,c,An]
def Zy8(k:Nat)(b:Fm α):acts (one k b)=acts b:=by
 ext one;split
 .show Zw5 _ _ _
 .show Au _
def acts_clsP(k:Nat)(b:Fm α)(g:Bool):acts (clsP k b g).1=acts b:=by
 ext clsP;split
 .exact(Zy8 _ _).trans (acts_cut _ _ _)
 .show acts_cut _ _ _
def acts_clsR(k:Nat)(b:Fm α)(g:Bool):acts (clsR k b g).1=acts b:=by
 ext clsR;split
 .change acts (cut false k b)++[]=_;rw[Au,acts_cut]
 .show acts_clsP _ _ _
def acts_td(s:Fm α):(acts (td s).1).Sublist (acts s):=by
 induction s with
 | nil=>show .slnil
 | act a r e=>show e.cons₂ a
 | fin a r e=>show(Il _).cons₂ a
 | lv n r e=>show Il _
 | ag n r e=>show Il _
 | ch a y n r c d f=>
  erw[td];split
  .exact((c.append d).append f).cons₂ a
  .exact((c.append d).append (Il _)).cons₂ a
 | rd k b r c d=>
  erw[td];split
  .simp only[acts_app,acts_clsR];show c.append d
  .simp only[acts_clsR];show c.trans (Kx _ _)
 | pt k b r c d=>
  erw[td];split
  .simp only[acts_app,acts_clsP];show c.append d
  .simp only[acts_clsP];show c.trans (Kx _ _)
def FL.hl{n:Nat}(s:Fm α):FL n s->hl n s=true:=by
 induction s with
 | nil=>show Az
 | act a r c=>show c
 | fin a r c=>show c
 | lv m r c=>intro h;erw[TD.hl,Bool.or_eq_true,decide_eq_true_eq];show h.imp Eq.symm c
 | ag m r c=>show c
 | ch a y m r e d f=>rintro(h|h|h)<;>erw[TD.hl,Bool.or_eq_true]<;>first | show .inl (.inl (e h)) | show .inl (.inr (d h)) | show .inr (f h)
 | rd k b r e d=>rintro(h|h)<;>erw[TD.hl,Bool.or_eq_true]<;>first | show .inl (e h.2) | show .inr (d h)
 | pt k b r e d=>rintro(h|h)<;>erw[TD.hl,Bool.or_eq_true]<;>first | show .inl (e h.2) | show .inr (d h)
def FA.ha{n:Nat}(s:Fm α):FA n s->ha n s=true:=by
 induction s with
 | nil=>show Az
 | act a r c=>show c
 | fin a r c=>show c
 | ag m r c=>intro h;erw[TD.ha,Bool.or_eq_true,decide_eq_true_eq];show h.imp Eq.symm c
 | lv m r c=>show c
 | ch a y m r e d f=>rintro(h|h|h)<;>erw[TD.ha,Bool.or_eq_true]<;>first | show .inl (.inl (e h)) | show .inl (.inr (d h)) | show .inr (f h)
 | rd k b r e d=>rintro(h|h)<;>erw[TD.ha,Bool.or_eq_true]<;>first | show .inl (e h.2) | show .inr (d h)
 | pt k b r e d=>rintro(h|h)<;>erw[TD.ha,Bool.or_eq_true]<;>first | show .inl (e h) | show .inr (d h)
def F_app(n:Nat)(s t:Fm α):(FL n (app s t)->FL n s\/FL n t)/\(FA n (app s t)->FA n s\/FA n t):=by
 induction s with
 | nil=>show(.inr,.inr)
 | act a r c=>show c
 | fin a r c=>show c
 | lv m r c=>show(λh=>h.elim (λh=> .inl (.inl h)) λh=>(c.1 h).imp .inr id,c.2)
 | ag m r c=>show(c.1,λh=>h.elim (λh=> .inl (.inl h)) λh=>(c.2 h).imp .inr id)
 | ch a y m r _ _ c=>
  show(?_,?_)
  .rintro(h|h|h)
   .show .inl (.inl h)
   .show .inl (.inr (.inl h))
   .exact(c.1 h).imp (λh=> .inr (.inr h)) id
  .rintro(h|h|h)
   .show .inl (.inl h)
   .show .inl (.inr (.inl h))
   .exact(c.2 h).imp (λh=> .inr (.inr h)) id
 | rd k b r _ c=>show(λh=>h.elim (λh=> .inl (.inl h)) λh=>(c.1 h).imp .inr id,λh=>h.elim (λh=> .inl (.inl h)) λh=>(c.2 h).imp .inr id)
 | pt k b r _ c=>show(λh=>h.elim (λh=> .inl (.inl h)) λh=>(c.1 h).imp .inr id,λh=>h.elim (λh=> .inl (.inl h)) λh=>(c.2 h).imp .inr id)
def Za7(w:Bool)(k n:Nat)(s:Fm α):(FL n (cut w k s)->FL n s)/\(FA n (cut w k s)->FA n s):=by
 induction s with
 | nil=>show(id,id)
 | act a r c=>show c
 | fin a r c=>show c
 | lv m r c=>
  erw[cut];split
  .exact(Az,Az)
  .exact(λh=>h.imp id c.1,c.2)
 | ag m r c=>
  erw[cut];split
  .exact(Az,Az)
  .exact(c.1,λh=>h.imp id c.2)
 | ch a y m r f e d=>
  erw[cut];split
  .exact(λh=>h.imp f.1 λh=>h.imp e.1 Az,λh=>h.imp f.2 λh=>h.imp e.2 Az)
  .exact(λh=>h.imp id λh=>h.imp id d.1,λh=>h.imp id λh=>h.imp id d.2)
 | rd j b r _ c=>show(λh=>h.imp id c.1,λh=>h.imp id c.2)
 | pt j b r _ c=>show(λh=>h.imp id c.1,λh=>h.imp id c.2)
def Ym7{k m:Nat}(i:k≠m)(n:Nat)(s:Fm α):(FL n (sub k m s)->n=m\/(FL n s/\n≠k))/\(FA n (sub k m s)->FA n s):=by
 induction s with
 | nil=>show(Az,id)
 | act a r c=>show c
 | fin a r c=>show c
 | lv j r c=>
  show(?_,c.2);rintro(h|h)
  .by_cases z:j=k
   .rw[nc z] at h;show .inl h
   .rw[nb z] at h;subst h;show .inr (.inl rfl,z)
  .exact(c.1 h).imp id λh=>(.inr h.1,h.2)
 | ag j r c=>show(c.1,λh=>h.imp id c.2)
 | ch a y j r e d g=>
  show(?_,λh=>h.imp e.2 λh=>h.imp d.2 g.2);rintro(h|h|h)
  .exact(e.1 h).imp id λh=>(.inl h.1,h.2)
  .exact(d.1 h).imp id λh=>(.inr (.inl h.1),h.2)
  .exact(g.1 h).imp id λh=>(.inr (.inr h.1),h.2)
 | rd j b r e d=>
  show(?_,λh=>h.imp (λh=>(h.1,e.2 h.2)) d.2);rintro(⟨f,h⟩|h)
  .exact(e.1 h).imp id λh=>(.inl (f,h.1),h.2)
  .exact(d.1 h).imp id λh=>(.inr h.1,h.2)
 | pt j b r e d=>
  show(?_,λh=>h.imp e.2 d.2);rintro(⟨f,h⟩|h)
  .exact(e.1 h).imp id λh=>(.inl (f,h.1),h.2)
  .exact(d.1 h).imp id λh=>(.inr h.1,h.2)
set_option tactic.hygienic true in
set_option tactic.hygienic true in
def Yw4{k:Nat}{b:Fm α}(g:k∉nums b)(n:Nat):(FL n (one k b)->n≠k/\FL n b)/\(FA n (one k b)->FA n b):=by
 ext one;split
 .rename_i m c;have a:k≠m:=λz=>g (by rw[z];show Ad ..);show(?_,λh=>h.imp (λh=>(h.1,(Ym7 a n c).2 h.2)) id);rintro(⟨d,h⟩|h)
  .rcases(Ym7 a n c).1 h with z|⟨f,e⟩
   .exact(d z).elim
   .exact(e,.inl (d,f))
  .show h.elim
 .exact(λh=>h.elim id Az,λh=>h.elim id Az)
def Y16{k:Nat}{b:Fm α}{g:Bool}(a:k∉nums b)(n:Nat):(FL n (clsP k b g).1->n≠k/\FL n b)/\(FA n (clsP k b g).1->FA n b):=by
 ext clsP;split
 .have:=Yw4 (b:=cut true k b) (by rw[Vs];show a) n;show(λh=>((this.1 h).1,(Za7 _ _ _ _).1 (this.1 h).2),λh=>(Za7 _ _ _ _).2 (this.2 h))
 .rename_i z;show(λh=>(λe=>z ?_,(Za7 _ _ _ _).1 h),(Za7 _ _ _ _).2);subst e;show FL.hl _ h
def Yr3{k:Nat}{b:Fm α}{g:Bool}(a:k∉nums b)(n:Nat):(FL n (clsR k b g).1->n≠k/\FL n b)/\(FA n (clsR k b g).1->n≠k/\FA n b):=by
 ext clsR;split
 .exact(λh=>h.elim (λh=>(h.1,(Za7 _ _ _ _).1 h.2)) Az,λh=>h.elim (λh=>(h.1,(Za7 _ _ _ _).2 h.2)) Az)
 .rename_i z;have:=Y16 (g:=false) a n;show(this.1,λh=>(λe=>z ?_,this.2 h));rw[<-e,FA.ha _ (this.2 h),Bool.or_true]
def F_td(s:Fm α)(n:Nat):(nums s).Nodup->(FL n (td s).1->FL n s)/\(FA n (td s).1->FA n s):=by
 induction s with
 | nil=>show λ_=>(id,id)
 | act a r l=>show l
 | fin a r l=>show λ_=>(Az,Az)
 | lv m r l=>show λ_=>(λh=>h.elim .inl Az,Az)
 | ag m r l=>show λ_=>(Az,λh=>h.elim .inl Az)
 | ch a y m r j i q=>
  intro d;erw[nums,As] at d;have e:=j d.1.1;have f:=i d.1.2.1;have p:=q d.2.1;erw[td];split
  .exact(λh=>h.imp e.1 λh=>h.imp f.1 p.1,λh=>h.imp e.2 λh=>h.imp f.2 p.2)
  .exact(λh=>h.imp e.1 λh=>h.imp f.1 Az,λh=>h.imp e.2 λh=>h.imp f.2 Az)
 | rd k b r j i=>
  intro d;erw[nums,Ao,As,Am,not_or] at d;have e:=j d.2.1;have f:=i d.2.2.1;have o:k∉nums (td b).1:=λh=>d.1.1 ((Ve b).subset h);have c:=Yr3 (g:=(td b).2) o n;erw[td];split
  .exact(λh=>((F_app n _ _).1 h).imp (λh=>((c.1 h).1,e.1 (c.1 h).2)) f.1,λh=>((F_app n _ _).2 h).imp (λh=>((c.2 h).1,e.2 (c.2 h).2)) f.2)
  .exact(λh=> .inl ((c.1 h).1,e.1 (c.1 h).2),λh=> .inl ((c.2 h).1,e.2 (c.2 h).2))
 | pt k b r j i=>
  intro d;erw[nums,Ao,As,Am,not_or] at d;have e:=j d.2.1;have f:=i d.2.2.1;have o:k∉nums (td b).1:=λh=>d.1.1 ((Ve b).subset h);have c:=Y16 (g:=(td b).2) o n;erw[td];split
  .exact(λh=>((F_app n _ _).1 h).imp (λh=>((c.1 h).1,e.1 (c.1 h).2)) f.1,λh=>((F_app n _ _).2 h).imp (λh=>e.2 (c.2 h)) f.2)
  .exact(λh=> .inl ((c.1 h).1,e.1 (c.1 h).2),λh=> .inl (e.2 (c.2 h)))
end TD
namespace TD
variable{α:Type}
end TD
namespace TD
variable{α β:Type}
def ren(f:Nat->Nat):Fm α->Fm α
 | .nil=> .nil
 | .act a r=> .act a (ren f r)
 | .fin a r=> .fin a (ren f r)
 | .lv n r=> .lv (f n) (ren f r)
 | .ag n r=> .ag (f n) (ren f r)
 | .ch a y n r=> .ch a (ren f y) (ren f n) (ren f r)
 | .rd k b r=> .rd (f k) (ren f b) (ren f r)
 | .pt k b r=> .pt (f k) (ren f b) (ren f r)
def isNil_ren(f:Nat->Nat)(s:Fm α):isNil (ren f s)=isNil s:=by cases s<;>rfl
def Zi1(f:Nat->Nat)(s:Fm α):sz (ren f s)=sz s:=by
 induction s with
 | nil=>rfl
 | ch a y n r d c b=>erw[ren,sz,isNil_ren,d,c,b]
 | _=>simp only[ren,sz, *]
def Ya3{f:Nat->Nat}{P:Nat->Prop}(q:∀a b,P a->P b->f a=f b->a=b)(s:Fm α):∀(o:Nat) (E d:Ep),(∀n∈nums s,P n)->(∀n,FL n s->P n/\(d (f n)).1=(E n).1)->(∀n,FA n s->P n/\(d (f n)).2=(E n).2)->(∀n,hl n s=true->P n)->(∀n,ha n s=true->P n)->rws (ren f s) o d=rws s o E:=by
 induction s with
 | nil=>intro o E d _ _ _ _ _;rfl
 | act a r t=>intro o E d h i g l j;erw[ren,rws];rw[t _ _ _ h i g l j]
 | fin a r t=>intro o E d h i g l j;erw[ren,rws];rw[t _ _ _ h i g l j]
 | lv n r t=>intro o E d h i g l j;erw[ren,rws];rw[t _ E d h (λm c=>i m (.inr c)) g (λm c=>l m (by erw[hl,c,Bool.or_true])) j,(i n (.inl rfl)).2]
 | ag n r t=>intro o E d h i g l j;erw[ren,rws];rw[t _ E d h i (λm c=>g m (.inr c)) l (λm c=>j m (by erw[ha,c,Bool.or_true])),(g n (.inl rfl)).2]
 | ch a y n r v u B=>intro o E d h i g l j;have F:∀o,rws (ren f y) o d=rws y o E:=λo=>v o E d (λm c=>h m (by simp[nums,c])) (λm c=>i m (.inl c)) (λm c=>g m (.inl c)) (λm c=>l m (by erw[hl,c,Bool.true_or])) (λm c=>j m (by erw[ha,c,Bool.true_or]));have D:∀o,rws (ren f n) o d=rws n o E:=λo=>u o E d (λm c=>h m (by simp[nums,c])) (λm c=>i m (.inr (.inl c))) (λm c=>g m (.inr (.inl c))) (λm c=>l m (by erw[hl,c,Bool.or_true,Bool.true_or])) (λm c=>j m (by erw[ha,c,Bool.or_true,Bool.true_or]));have C:∀o,rws (ren f r) o d=rws r o E:=λo=>B o E d (λm c=>h m (by simp[nums,c])) (λm c=>i m (.inr (.inr c))) (λm c=>g m (.inr (.inr c))) (λm c=>l m (by erw[hl,c,Bool.or_true])) (λm c=>j m (by erw[ha,c,Bool.or_true]));erw[ren,rws,isNil_ren,Zi1,F,D,C]
 | rd k b r v u=>
  intro o E d h i g l j;have w:P k:=h k (Ad ..);have A:∀m,hl m b=true->P m:=λm c=>l m (by erw[hl,c,Bool.true_or]);have x:∀m,ha m b=true->P m:=λm c=>j m (by erw[ha,c,Bool.true_or]);erw[ren,rws,Zi1];rw[u _ E d (λm c=>h m (by simp[nums,c])) (λm c=>i m (.inr c)) (λm c=>g m (.inr c)) (λm c=>l m (by erw[hl,c,Bool.or_true])) (λm c=>j m (by erw[ha,c,Bool.or_true]))];rw[v _ (upE E k (o+sz b+1) o) (upE d (f k) (o+sz b+1) o) (λm c=>h m (by simp[nums,c])) ?_ ?_ A x]
  .intro m c;have p:=A m (FL.hl _ c);show(p,?_);ext upE;by_cases z:m=k
   .rw[nc z,nc (by rw[z])]
   .rw[nb z,nb (λe=>z (q _ _ p w e))];show(i m (.inl (z,c))).2
  .intro m c;have p:=x m (FA.ha _ c);show(p,?_);ext upE;by_cases z:m=k
   .rw[nc z,nc (by rw[z])]
   .rw[nb z,nb (λe=>z (q _ _ p w e))];show(g m (.inl (z,c))).2
 | pt k b r v u=>
  intro o E d h i g l j;have w:P k:=h k (Ad ..);have A:∀m,hl m b=true->P m:=λm c=>l m (by erw[hl,c,Bool.true_or]);have x:∀m,ha m b=true->P m:=λm c=>j m (by erw[ha,c,Bool.true_or]);erw[ren,rws,Zi1];rw[u _ E d (λm c=>h m (by simp[nums,c])) (λm c=>i m (.inr c)) (λm c=>g m (.inr c)) (λm c=>l m (by erw[hl,c,Bool.or_true])) (λm c=>j m (by erw[ha,c,Bool.or_true]))];rw[v _ (upE E k (o+sz b) (E k).2) (upE d (f k) (o+sz b) (d (f k)).2) (λm c=>h m (by simp[nums,c])) ?_ ?_ A x]
  .intro m c;have p:=A m (FL.hl _ c);show(p,?_);ext upE;by_cases z:m=k
   .rw[nc z,nc (by rw[z])]
   .rw[nb z,nb (λe=>z (q _ _ p w e))];show(i m (.inl (z,c))).2
  .intro m c;have p:=x m (FA.ha _ c);show(p,?_);ext upE;by_cases z:m=k
   .subst z;rw[nc rfl,nc rfl];show(g m (.inl c)).2
   .rw[nb z,nb (λe=>z (q _ _ p w e))];show(g m (.inl c)).2
end TD
namespace TD
variable{α β:Type}
def nr:Fm α->Nat
 | .nil=>0
 | .act _ r=>nr r
 | .fin _ r=>nr r
 | .lv _ r=>nr r
 | .ag _ r=>nr r
 | .ch _ y n r=>nr y+nr n+nr r
 | .rd _ b r=>1+nr b+nr r
 | .pt _ b r=>nr b+nr r
def nr_app(s t:Fm α):nr (app s t)=nr s+nr t:=by
 induction s with
 | nil=>change nr t=0+nr t;lia
 | act a r c=>show c
 | fin a r c=>show c
 | lv n r c=>show c
 | ag n r c=>show c
 | ch a y n r _ _ c=>erw[app,nr,c];lia
 | rd k b r _ c=>erw[app,nr,c];lia
 | pt k b r _ c=>erw[app,nr,c];lia
structure Wk(s:Fm α):Prop where
 nu:(nums s).Nodup
 lv:∀n,¬FL n s
 ag:∀n,¬FA n s
def Wk.td{s:Fm α}(h:Wk s):Wk (td s).1:=(h.nu.sublist (Ve s),λn z=>h.lv n ((F_td s n h.nu).1 z),λn z=>h.ag n ((F_td s n h.nu).2 z))
end TD
namespace TD
variable{α:Type}
def hl_or(s:Fm α)(n:Nat):(hl n s=true->FL n s\/n∈nums s)/\(ha n s=true->FA n s\/n∈nums s):=by
 induction s with
 | nil=>show((λh=>by cases h),(λh=>by cases h))
 | act a r ih=>show ih
 | fin a r ih=>show ih
 | lv m r ih=>
  show(λh=>?_,λh=>ih.2 h);erw[hl,Bool.or_eq_true,decide_eq_true_eq] at h;rcases h with rfl|h
  .show .inl (.inl rfl)
  .exact(ih.1 h).imp_left .inr
 | ag m r ih=>
  show(λh=>ih.1 h,λh=>?_);erw[ha,Bool.or_eq_true,decide_eq_true_eq] at h;rcases h with rfl|h
  .show .inl (.inl rfl)
  .exact(ih.2 h).imp_left .inr
 | ch a y m r iy iN ir=>
  show(λh=>?_,λh=>?_)
  .simp only[hl,Bool.or_eq_true] at h;rcases h with(h|h)|h
   .exact(iy.1 h).imp .inl λz=>by simp[nums,z]
   .exact(iN.1 h).imp (λz=> .inr (.inl z)) λz=>by simp[nums,z]
   .exact(ir.1 h).imp (λz=> .inr (.inr z)) λz=>by simp[nums,z]
  .simp only[ha,Bool.or_eq_true] at h;rcases h with(h|h)|h
   .exact(iy.2 h).imp .inl λz=>by simp[nums,z]
   .exact(iN.2 h).imp (λz=> .inr (.inl z)) λz=>by simp[nums,z]
   .exact(ir.2 h).imp (λz=> .inr (.inr z)) λz=>by simp[nums,z]
 | rd k b r ib ir=>
  show(λh=>?_,λh=>?_)
  .simp only[hl,Bool.or_eq_true] at h;rcases h with h|h
   .by_cases e:n=k
    .show .inr (by simp[nums,e])
    .exact(ib.1 h).imp (λz=> .inl (e,z)) λz=>by simp[nums,z]
   .exact(ir.1 h).imp .inr λz=>by simp[nums,z]
  .simp only[ha,Bool.or_eq_true] at h;rcases h with h|h
   .by_cases e:n=k
    .show .inr (by simp[nums,e])
    .exact(ib.2 h).imp (λz=> .inl (e,z)) λz=>by simp[nums,z]
   .exact(ir.2 h).imp .inr λz=>by simp[nums,z]
 | pt k b r ib ir=>
  show(λh=>?_,λh=>?_)
  .simp only[hl,Bool.or_eq_true] at h;rcases h with h|h
   .by_cases e:n=k
    .show .inr (by simp[nums,e])
    .exact(ib.1 h).imp (λz=> .inl (e,z)) λz=>by simp[nums,z]
   .exact(ir.1 h).imp .inr λz=>by simp[nums,z]
  .simp only[ha,Bool.or_eq_true] at h;rcases h with h|h
   .exact(ib.2 h).imp .inl λz=>by simp[nums,z]
   .exact(ir.2 h).imp .inr λz=>by simp[nums,z]
def nums_ren(f:Nat->Nat)(s:Fm α):nums (ren f s)=(nums s).map f:=by
 induction s with
 | nil=>rfl
 | _=>simp only[ren,nums,Dc,Aj, *]
def Yj3(f:Nat->Nat)(s:Fm α)(n:Nat):(FL n (ren f s)->∃m,n=f m/\FL m s)/\(FA n (ren f s)->∃m,n=f m/\FA m s):=by
 induction s with
 | nil=>show(λh=>h.elim,λh=>h.elim)
 | act a r c=>show c
 | fin a r c=>show c
 | lv m r c=>
  show(λh=>?_,c.2);rcases h with h|h
  .exact(m,h,.inl rfl)
  .let(x,e,z):=c.1 h;show(x,e,.inr z)
 | ag m r c=>
  show(c.1,λh=>?_);rcases h with h|h
  .exact(m,h,.inl rfl)
  .let(x,e,z):=c.2 h;show(x,e,.inr z)
 | ch a y m r j l d=>
  show(λh=>?_,λh=>?_)
  .rcases h with h|h|h
   .let(x,e,z):=j.1 h;show(x,e,.inl z)
   .let(x,e,z):=l.1 h;show(x,e,.inr (.inl z))
   .let(x,e,z):=d.1 h;show(x,e,.inr (.inr z))
  .rcases h with h|h|h
   .let(x,e,z):=j.2 h;show(x,e,.inl z)
   .let(x,e,z):=l.2 h;show(x,e,.inr (.inl z))
   .let(x,e,z):=d.2 h;show(x,e,.inr (.inr z))
 | rd k b r i d=>
  show(λh=>?_,λh=>?_)
  .rcases h with⟨g,h⟩|h
   .let(x,e,z):=i.1 h;show(x,e,.inl (λw=>g (by rw[e,w]),z))
   .let(x,e,z):=d.1 h;show(x,e,.inr z)
  .rcases h with⟨g,h⟩|h
   .let(x,e,z):=i.2 h;show(x,e,.inl (λw=>g (by rw[e,w]),z))
   .let(x,e,z):=d.2 h;show(x,e,.inr z)
 | pt k b r i d=>
  show(λh=>?_,λh=>?_)
  .rcases h with⟨g,h⟩|h
   .let(x,e,z):=i.1 h;show(x,e,.inl (λw=>g (by rw[e,w]),z))
   .let(x,e,z):=d.1 h;show(x,e,.inr z)
  .rcases h with h|h
   .let(x,e,z):=i.2 h;show(x,e,.inl z)
   .let(x,e,z):=d.2 h;show(x,e,.inr z)
def C5{l:LQ}{a b:Nat}(e:a∈l)(h:l.idxOf a=l.idxOf b):a=b:=by
 have c:=List.idxOf_lt_length_of_mem e;have d:l[l.idxOf a]?=some a:=by rw[Ah c,List.getElem_idxOf]
 have f:l.idxOf b<l.length:=h ▸ c;have g:l[l.idxOf b]?=some b:=by rw[Ah f,List.getElem_idxOf]
 rw[h,g] at d;show(Dw d).symm
def Wk.ren{s:Fm α}(h:Wk s):Wk (ren (nums s).idxOf s)/\rws (ren (nums s).idxOf s) 0 (λ_=>#v[0,0])=rws s 0 λ_=>#v[0,0]:=by
 have P1:∀n,hl n s=true->n∈nums s:=λn z=>((hl_or s n).1 z).resolve_left (h.lv n);have P2:∀n,ha n s=true->n∈nums s:=λn z=>((hl_or s n).2 z).resolve_left (h.ag n);show((?_,λn z=>?_,λn z=>?_),Ya3 (P:=λn=>n∈nums s) (λa b ha _ e=>C5 ha e) s 0 _ _ (λn z=>z) (λn z=>(h.lv n z).elim) (λn z=>(h.ag n z).elim) P1 P2)
 .rw[nums_ren];ext List.Nodup;rw[List.pairwise_map];show List.Pairwise.imp_of_mem (λha _ ne e=>ne (C5 ha e)) h.nu
 .let(m,_,z):=(Yj3 _ s n).1 z;show h.lv m z
 .let(m,_,z):=(Yj3 _ s n).2 z;show h.ag m z
end TD
namespace TD
variable{α:Type}
def on:Fm α->Bool
 | .nil=>true
 | .act _ r=>on r
 | .fin _ r=> !isNil r&&on r
 | .lv _ r=> !isNil r&&on r
 | .ag _ r=> !isNil r&&on r
 | .ch _ y n r=>if isNil r then on y || on n else on r
 | .rd k b r=>if isNil r then hl k b else on r
 | .pt k b r=>if isNil r then on b || hl k b else on r
def tl(w:Bool)(k:Nat):Fm α->Bool
 | .nil=>false
 | .act _ r=>tl w k r
 | .fin _ r=>tl w k r
 | .lv n r=>(w&&decide (n=k)&&isNil r) || tl w k r
 | .ag n r=>(!w&&decide (n=k)&&isNil r) || tl w k r
 | .ch _ y n r=>if isNil r then tl w k y || tl w k n else tl w k r
 | .rd _ _ r=>tl w k r
 | .pt _ _ r=>tl w k r
def rd1:Fm α->Bool
 | .rd _ _ r=>isNil r
 | _=>false
def Tdy:Fm α->Prop
 | .nil=>True
 | .act _ r=>Tdy r
 | .fin _ r=>isNil r=true
 | .lv _ r=>isNil r=true
 | .ag _ r=>isNil r=true
 | .ch _ y n r=>Tdy y/\Tdy n/\Tdy r/\(isNil r=true\/(on y || on n)=true)
 | .rd k b r=>Tdy b/\Tdy r/\(on b || ha k b)=true/\tl false k b=false/\(isNil r=true\/hl k b=true)
 | .pt k b r=>Tdy b/\Tdy r/\hl k b=true/\tl true k b=false/\rd1 b=false
def nilT:isNil (.nil:Fm α)=true:=rfl
def Xb{w:Bool}{k:Nat}{s:Fm α}(h:isNil s=true):isNil (cut w k s)=true:=by rw[isNil_eq h];rfl
def Y28{w:Bool}{k:Nat}{s:Fm α}(h:tl w k s=false):cut w k s=s:=by
 induction s with
 | nil=>rfl
 | act a r c=>erw[cut,c h]
 | fin a r c=>erw[cut,c h]
 | lv n r c=>erw[tl,Bool.or_eq_false_iff] at h;erw[cut,c h.2,h.1];rfl
 | ag n r c=>erw[tl,Bool.or_eq_false_iff] at h;erw[cut,c h.2,h.1];rfl
 | ch a y n r i j c=>
  erw[tl] at h;cases d:isNil r with
  | true=>rw[d,nc rfl,Bool.or_eq_false_iff] at h;have:=isNil_eq d;subst this;erw[cut,i h.1,j h.2,isNil,if_true]
  | false=>rw[d,nb 'd'] at h;erw[cut,c h,d];rfl
 | rd j b r _ c=>erw[cut,c h]
 | pt j b r _ c=>erw[cut,c h]
def Y39{w:Bool}{k:Nat}{s:Fm α}(h:Tdy s):tl w k (cut w k s)=false:=by
 induction s with
 | nil=>rfl
 | act a r c=>show c h
 | fin a r c=>have:=isNil_eq h;subst this;rfl
 | lv n r c=>
  have:=isNil_eq h;subst this;erw[cut];split
  .rfl
  .rename_i z;erw[tl,cut,isNil,Bool.or_false];simpa[isNil] using z
 | ag n r c=>
  have:=isNil_eq h;subst this;erw[cut];split
  .rfl
  .rename_i z;erw[tl,cut,isNil,Bool.or_false];simpa[isNil] using z
 | ch a y n r i j c=>
  let(f,e,d,_):=h;erw[cut];split
  .simp only[tl,isNil,if_true,i f,j e];rfl
  .rename_i z;erw[tl];rw[nb z];show c d
 | rd j b r _ c=>show c h.2.1
 | pt j b r _ c=>show c h.2.1
def Cd{w:Bool}{k:Nat}{s:Fm α}(h:Tdy s):Tdy (cut w k s):=by
 induction s with
 | nil=>trivial
 | act a r c=>show c h
 | fin a r c=>show Xb h
 | lv n r c=>erw[cut];split;show trivial;show Xb h
 | ag n r c=>erw[cut];split;show trivial;show Xb h
 | ch a y n r i j c=>
  let(e,d,f,g):=h;erw[cut];split
  .exact(i e,j d,trivial,.inl rfl)
  .rename_i z;show(e,d,c f,g.elim (λq=>absurd (Xb q) z) .inr)
 | rd j b r _ c=>let(e,d,f,g,l):=h;show(e,c d,f,g,l.imp Xb id)
 | pt j b r _ c=>let(e,d,f):=h;show(e,c d,f)
def Px{w:Bool}{k:Nat}{s:Fm α}(h:isNil (cut w k s)=true):isNil s=true\/tl w k s=true:=by
 cases s with
 | nil=>show .inl rfl
 | lv n r=>
  erw[cut] at h;split at h
  .rename_i z;show .inr (by erw[tl,z,Bool.true_or])
  .cases h
 | ag n r=>
  erw[cut] at h;split at h
  .rename_i z;show .inr (by erw[tl,z,Bool.true_or])
  .cases h
 | ch a y n r=>erw[cut] at h;split at h<;>cases h
 | _=>cases h
def Y07{w:Bool}{k:Nat}{s:Fm α}(h:Tdy s):on (cut w k s)=(on s || tl w k s):=by
 induction s with
 | nil=>rfl
 | act a r d=>show d h
 | fin a r d=>have:=isNil_eq h;subst this;rfl
 | lv n r d=>
  have:=isNil_eq h;subst this;erw[cut];split
  .rename_i z;erw[on,tl,z];rfl
  .rename_i z;rw[Bool.not_eq_true] at z;erw[on,tl,cut,z];rfl
 | ag n r d=>
  have:=isNil_eq h;subst this;erw[cut];split
  .rename_i z;erw[on,tl,z];rfl
  .rename_i z;rw[Bool.not_eq_true] at z;erw[on,tl,cut,z];rfl
 | ch a y n r i j d=>
  let(m,e,g,l):=h;erw[cut];split
  .rename_i z;erw[on,nilT,if_true,i m,j e,tl];cases c:isNil r with
   | true=>erw[if_true];cases on y<;>cases on n<;>cases tl w k y<;>cases tl w k n<;>rfl
   | false=>have f:=l.resolve_left (by rw[c];decide);have p:=(Px z).resolve_left (by rw[c];decide);erw[Bool.false_eq_true,if_false,p,Bool.or_true];rw[Bool.or_eq_true] at f;rcases f with q|q<;>rw[q]<;>simp
  .rename_i z;have c:isNil r=false:=by cases q:isNil r with
    | true=>show absurd (Xb q) z
    | false=>rfl
   erw[on,tl,c,Bool.false_eq_true,if_false];rw[nb z];show d g
 | rd j b r _ d=>
  let(m,e,g,l,o):=h;erw[cut,on,tl];cases c:isNil r with
  | true=>have:=isNil_eq c;subst this;simp[cut,isNil,tl]
  | false=>
   erw[Bool.false_eq_true,if_false];have f:=o.resolve_left (by rw[c];decide);split
   .rename_i z;rw[(Px z).resolve_left (by rw[c];decide),f];simp
   .show d e
 | pt j b r _ d=>
  let(m,e,g,l,o):=h;erw[cut,on,tl];cases c:isNil r with
  | true=>have:=isNil_eq c;subst this;simp[cut,isNil,tl]
  | false=>
   erw[Bool.false_eq_true,if_false];split
   .rename_i z;rw[(Px z).resolve_left (by rw[c];decide),g];simp
   .show d e
def Zd0{k:Nat}{s:Fm α}:hl k s=(hl k (cut true k s) || tl true k s):=by
 induction s with
 | nil=>rfl
 | act a r c=>show c
 | fin a r c=>show c
 | lv n r c=>
  erw[cut];split
  .rename_i z;erw[hl,tl,z];simp at z;simp[z.1]
  .rename_i z;rw[Bool.not_eq_true] at z;erw[hl,tl,z,Bool.false_or];rw[c];simp[Bool.or_assoc]
 | ag n r c=>erw[cut,Bool.not_true,Bool.false_and,Bool.false_eq_true,if_false,hl,tl,Bool.false_or];show c
 | ch a y n r i j c=>
  erw[cut];split
  .rename_i z;cases d:isNil r with
   | true=>have:=isNil_eq d;subst this;erw[hl,tl,isNil,if_true,Bool.or_false];rw[i,j];cases hl k (cut true k y)<;>cases hl k (cut true k n)<;>cases tl true k y<;>cases tl true k n<;>rfl
   | false=>have e:=(Px z).resolve_left (by rw[d];decide);erw[hl,tl,d,Bool.false_eq_true,if_false,e,Bool.or_true];rw[c,e];simp
  .rename_i z;have d:isNil r=false:=by cases q:isNil r with
    | true=>show absurd (Xb q) z
    | false=>rfl
   erw[hl,tl,d,Bool.false_eq_true,if_false];rw[c];simp[Bool.or_assoc]
 | rd j b r _ c=>erw[hl,cut,tl];rw[c];simp[Bool.or_assoc]
 | pt j b r _ c=>erw[hl,cut,tl];rw[c];simp[Bool.or_assoc]
def Zc9{k:Nat}{s:Fm α}:ha k s=(ha k (cut false k s) || tl false k s):=by
 induction s with
 | nil=>rfl
 | act a r c=>show c
 | fin a r c=>show c
 | ag n r c=>
  erw[cut];split
  .rename_i z;erw[ha,tl,z];simp at z;simp[z.1]
  .rename_i z;rw[Bool.not_eq_true] at z;erw[ha,tl,z,Bool.false_or];rw[c];simp[Bool.or_assoc]
 | lv n r c=>erw[cut,Bool.false_and,Bool.false_eq_true,if_false,ha,tl,Bool.false_or];show c
 | ch a y n r i j c=>
  erw[cut];split
  .rename_i z;cases d:isNil r with
   | true=>have:=isNil_eq d;subst this;erw[ha,tl,isNil,if_true,Bool.or_false];rw[i,j];cases ha k (cut false k y)<;>cases ha k (cut false k n)<;>cases tl false k y<;>cases tl false k n<;>rfl
   | false=>have e:=(Px z).resolve_left (by rw[d];decide);erw[ha,tl,d,Bool.false_eq_true,if_false,e,Bool.or_true];rw[c,e];simp
  .rename_i z;have d:isNil r=false:=by cases q:isNil r with
    | true=>show absurd (Xb q) z
    | false=>rfl
   erw[ha,tl,d,Bool.false_eq_true,if_false];rw[c];simp[Bool.or_assoc]
 | rd j b r _ c=>erw[ha,cut,tl];rw[c];simp[Bool.or_assoc]
 | pt j b r _ c=>erw[ha,cut,tl];rw[c];simp[Bool.or_assoc]
def Y11(s t:Fm α):on (app s t)=if isNil t then on s else on t:=by
 have d:∀(r:Fm α),isNil (app r t)=(isNil r&&isNil t):=λr=>by cases r<;>first | rfl | (cases t<;>rfl)
 induction s with
 | nil=>erw[app];cases t<;>rfl
 | act a r c=>show c
 | fin a r c=>erw[app,on,c,d];cases isNil r<;>cases isNil t<;>simp
 | lv n r c=>erw[app,on,c,d];cases isNil r<;>cases isNil t<;>simp
 | ag n r c=>erw[app,on,c,d];cases isNil r<;>cases isNil t<;>simp
 | ch a y n r _ _ c=>erw[app,on,c,d];cases isNil r<;>cases isNil t<;>simp
 | rd k b r _ c=>erw[app,on,c,d];cases isNil r<;>cases isNil t<;>simp
 | pt k b r _ c=>erw[app,on,c,d];cases isNil r<;>cases isNil t<;>simp
def Gy(s t:Fm α):isNil (app s t)=(isNil s&&isNil t):=by cases s<;>first | rfl | (cases t<;>rfl)
def Oy{s:Fm α}(h:isNil s=true):on s=true:=by rw[isNil_eq h];rfl
def Zb7{s t:Fm α}(l:Tdy s)(o:Tdy t)(h:isNil t=true\/on s=true):Tdy (app s t):=by
 induction s with
 | nil=>show o
 | act a r d=>show d l h
 | fin a r d=>have:=isNil_eq l;subst this;show h.resolve_right Bool.noConfusion
 | lv n r d=>have:=isNil_eq l;subst this;show h.resolve_right Bool.noConfusion
 | ag n r d=>have:=isNil_eq l;subst this;show h.resolve_right Bool.noConfusion
 | ch a y n r i j d=>
  let(g,f,e,m):=l;cases c:isNil r with
  | true=>show(g,f,d e (.inr (Oy c)),?_);rw[Gy,c];erw[on,c,if_true] at h;show h
  | false=>erw[on,c,Bool.false_eq_true,if_false] at h;show(g,f,d e h,.inr (m.resolve_left (by rw[c];decide)))
 | rd k b r _ d=>
  let(g,f,e,m,p):=l;cases c:isNil r with
  | true=>show(g,d f (.inr (Oy c)),e,m,?_);rw[Gy,c];erw[on,c,if_true] at h;show h
  | false=>erw[on,c,Bool.false_eq_true,if_false] at h;show(g,d f h,e,m,.inr (p.resolve_left (by rw[c];decide)))
 | pt k b r _ d=>
  let(g,f,e):=l;cases c:isNil r with
  | true=>show(g,d f (.inr (Oy c)),e)
  | false=>erw[on,c,Bool.false_eq_true,if_false] at h;show(g,d f h,e)
def Zo(k m:Nat)(s:Fm α):isNil (sub k m s)=isNil s:=by cases s<;>rfl
def Y47(k m:Nat)(s:Fm α):rd1 (sub k m s)=rd1 s:=by cases s<;>first | rfl | show Zo k m _
def Zq4{k m:Nat}{s:Fm α}(h:hl k s=true):hl m (sub k m s)=true:=by
 induction s with
 | nil=>cases h
 | act a r c=>show c h
 | fin a r c=>show c h
 | ag n r c=>show c h
 | lv n r c=>
  erw[hl,sub,Bool.or_eq_true,decide_eq_true_eq] at h |-;rcases h with h|h
  .show .inl (by rw[nc h])
  .show .inr (c h)
 | ch a y n r i j c=>erw[hl,sub,Bool.or_eq_true] at h |-;show h.imp (Or.imp i j) c
 | rd l b r i c=>erw[hl,sub,Bool.or_eq_true] at h |-;show h.imp i c
 | pt l b r i c=>erw[hl,sub,Bool.or_eq_true] at h |-;show h.imp i c
def Qk{j k m:Nat}(e:j≠k)(d:j≠m)(s:Fm α):hl j (sub k m s)=hl j s:=by
 induction s with
 | nil=>rfl
 | act a r c=>show c
 | fin a r c=>show c
 | ag n r c=>show c
 | lv n r c=>
  erw[hl,sub,c];by_cases q:n=k
  .rw[nc q,ma (Av d),ma (by rw[q];show Av e)]
  .rw[nb q]
 | ch a y n r i j c=>erw[hl,sub,c,i,j]
 | rd l b r i c=>erw[hl,sub,c,i]
 | pt l b r i c=>erw[hl,sub,c,i]
def Ju{w:Bool}{j k m:Nat}(h:w=true->j≠k/\j≠m)(s:Fm α):tl w j (sub k m s)=tl w j s:=by
 induction s with
 | nil=>rfl
 | act a r c=>show c
 | fin a r c=>show c
 | ag n r c=>erw[tl,sub,c,Zo]
 | lv n r c=>
  erw[tl,sub,c,Zo];cases w with
  | false=>rfl
  | true=>
   let(e,d):=h rfl;by_cases q:n=k
   .rw[nc q,ma (Av d),ma (by rw[q];show Av e)]
   .rw[nb q]
 | ch a y n r i j c=>erw[tl,sub,c,i,j,Zo]
 | rd l b r i c=>show c
 | pt l b r i c=>show c
def Z19{k m:Nat}{s:Fm α}(d:k∉nums s)(c:m∉nums s):on (sub k m s)=on s:=by
 induction s with
 | nil=>rfl
 | act a r e=>show e d c
 | fin a r e=>erw[on,sub,Zo];rw[e d c]
 | lv n r e=>erw[on,sub,Zo];rw[e d c]
 | ag n r e=>erw[on,sub,Zo];rw[e d c]
 | ch a y n r i j e=>erw[nums,Am,not_or] at d c;erw[on,sub,Zo];rw[e d.2 c.2,i d.1.1 c.1.1,j d.1.2 c.1.2]
 | rd l b r i e=>erw[nums,Ab,Am,not_or] at d c;erw[on,sub,Zo];rw[e d.2.2 c.2.2,Qk (Av d.1) (Av c.1)]
 | pt l b r i e=>erw[nums,Ab,Am,not_or] at d c;erw[on,sub,Zo];rw[e d.2.2 c.2.2,Qk (Av d.1) (Av c.1),i d.2.1 c.2.1]
def Y75{k m:Nat}{s:Fm α}(d:k∉nums s)(c:m∉nums s)(h:Tdy s):Tdy (sub k m s):=by
 induction s with
 | nil=>trivial
 | act a r e=>show e d c h
 | fin a r e=>show(Zo k m r).trans h
 | lv n r e=>show(Zo k m r).trans h
 | ag n r e=>show(Zo k m r).trans h
 | ch a y n r i j e=>erw[nums,Am,not_or] at d c;let(p,o,g,f):=h;show(i d.1.1 c.1.1 p,j d.1.2 c.1.2 o,e d.2 c.2 g,?_);rw[Zo,Z19 d.1.1 c.1.1,Z19 d.1.2 c.1.2];show f
 | rd l b r i e=>
  erw[nums,Ab,Am,not_or] at d c;let(p,o,g,f,q):=h;show(i d.2.1 c.2.1 p,e d.2.2 c.2.2 o,?_,?_,?_)
  .rw[Z19 d.2.1 c.2.1,Y10];show g
  .rw[Ju (by intro z;cases z)];show f
  .rw[Zo,Qk (Av d.1) (Av c.1)];show q
 | pt l b r i e=>
  erw[nums,Ab,Am,not_or] at d c;let(p,o,g,f,q):=h;show(i d.2.1 c.2.1 p,e d.2.2 c.2.2 o,?_,?_,?_)
  .rw[Qk (Av d.1) (Av c.1)];show g
  .rw[Ju (λ_=>(Av d.1,Av c.1))];show f
  .rw[Y47];show q
def Y18{k:Nat}{b:Fm α}(h:rd1 b=false):one k b= .pt k b .nil:=by
 ext one;split
 .cases h
 .rfl
def Yj0{k:Nat}{b:Fm α}(a:(nums b).Nodup)(d:k∉nums b)(h:Tdy b)(e:hl k b=true)(g:tl true k b=false):Tdy (one k b)/\on (one k b)=true:=by
 cases q:rd1 b with
 | false=>rw[Y18 q];show((h,trivial,e,g,q),by simp[on,nilT,e])
 | true=>
  cases b with
  | rd m c r=>
   have:=isNil_eq (show isNil r=true from q);subst this;erw[nums,Au,Ao,Ab,not_or] at a d;let(l,o,j,i,n):=h;have f:hl k c=true:=by simpa[hl] using e
   show((Y75 d.2 a.1 l,trivial,?_,?_,.inl rfl),?_)
   .rw[Z19 d.2 a.1,Y10];show j
   .rw[Ju (by intro z;cases z)];show i
   .show(if isNil (.nil:Fm α) then _ else _)=true;show Zq4 f
  | _=>cases q
def Zo9{k:Nat}{b:Fm α}(d:(nums b).Nodup)(e:k∉nums b)(h:Tdy b):Tdy (clsP k b (on b)).1/\(clsP k b (on b)).2=on (clsP k b (on b)).1:=by
 ext clsP;split
 .rename_i q;let(a,c):=Yj0 (k:=k) (b:=cut true k b) (by rw[Vs];show d) (by rw[Vs];show e) (Cd h) q (Y39 h);show(a,c.symm)
 .rename_i q;rw[Bool.not_eq_true] at q;show(Cd h,?_);show(on b || hl k b)=on (cut true k b);rw[Y07 h,Zd0 (k:=k) (s:=b),q,Bool.false_or]
def Ye7{k:Nat}{b:Fm α}(a:(nums b).Nodup)(d:k∉nums b)(h:Tdy b):Tdy (clsR k b (on b)).1/\(clsR k b (on b)).2=on (clsR k b (on b)).1:=by
 ext clsR;split
 .rename_i q;show((Cd h,trivial,?_,Y39 h,.inl rfl),rfl);rw[Y07 h];rw[Zc9 (k:=k) (s:=b)] at q;revert q;cases on b<;>cases tl false k b<;>cases ha k (cut false k b)<;>decide
 .rename_i q;have:on b=false:=by cases z:on b with
   | true=>rw[z] at q;show absurd rfl q
   | false=>rfl
  have c:=Zo9 a d h;rw[this] at c;show c
def Yx7(s:Fm α)(o:(nums s).Nodup):Tdy (td s).1/\(td s).2=on (td s).1:=by
 induction s with
 | nil=>show(trivial,rfl)
 | act a r d=>show d o
 | fin a r d=>show(rfl,rfl)
 | lv n r d=>show(rfl,rfl)
 | ag n r d=>show(rfl,rfl)
 | ch a y n r i j d=>
  let(m,l,_):=As.mp (show(nums y++nums n++nums r).Nodup from o);let(f,h,_):=As.mp m;let(v,u):=i f;let(x,w):=j h;let(g,e):=d l;erw[td];split
  .rename_i q;rw[u,w] at q;show((v,x,g,.inr q),?_);show(td r).2=on (.ch a _ _ _);erw[on];split
   .rename_i z;rw[q,e,Oy z]
   .show e
  .rename_i q;rw[u,w,Bool.not_eq_true] at q;show((v,x,trivial,.inl rfl),q.symm)
 | rd k b r i d=>
  let(m,l):=Ao.mp (show(k::(nums b++nums r)).Nodup from o);let(f,h,_):=As.mp l;let(t,p):=i f;let(g,e):=d h;have c:=Ye7 (k:=k) ((Ve b).nodup f) (λz=>m (Bs _ ((Ve b).subset z))) t;rw[<-p] at c;erw[td];split
  .rename_i q;show(Zb7 c.1 g (.inr (by rw[<-c.2];show q)),?_);show(td r).2=on _;rw[Y11];split
   .rename_i z;rw[<-c.2,q,e,Oy z]
   .show e
  .rename_i q;rw[Bool.not_eq_true] at q;show(c.1,by change false=_;rw[<-c.2,q])
 | pt k b r i d=>
  let(m,l):=Ao.mp (show(k::(nums b++nums r)).Nodup from o);let(f,h,_):=As.mp l;let(t,p):=i f;let(g,e):=d h;have c:=Zo9 (k:=k) ((Ve b).nodup f) (λz=>m (Bs _ ((Ve b).subset z))) t;rw[<-p] at c;erw[td];split
  .rename_i q;show(Zb7 c.1 g (.inr (by rw[<-c.2];show q)),?_);show(td r).2=on _;rw[Y11];split
   .rename_i z;rw[<-c.2,q,e,Oy z]
   .show e
  .rename_i q;rw[Bool.not_eq_true] at q;show(c.1,by change false=_;rw[<-c.2,q])
def Yl7(s:Fm α)(h:Tdy s):td s=#v[s,on s]:=by
 induction s with
 | nil=>rfl
 | act a r d=>erw[td,d h];rfl
 | fin a r d=>have:=isNil_eq h;subst this;rfl
 | lv n r d=>have:=isNil_eq h;subst this;rfl
 | ag n r d=>have:=isNil_eq h;subst this;rfl
 | ch a y n r i j d=>
  let(m,l,f,g):=h;erw[td,i m,j l,d f,on];cases e:isNil r with
  | true=>have:=isNil_eq e;subst this;cases p:(on y || on n)<;>simp[on]
  | false=>rw[g.resolve_left (by rw[e];decide)];simp
 | rd k b r i d=>
  let(m,l,f,g,o):=h;erw[td,i m,d l,on];have c:clsR k b (on b)=#v[.rd k b .nil,hl k b]:=by ext clsR;rw[nc f,Y28 g]
  rw[c];cases e:isNil r with
  | true=>have:=isNil_eq e;subst this;cases p:hl k b<;>simp[on,app]
  | false=>rw[o.resolve_left (by rw[e];decide)];simp[app]
 | pt k b r i d=>
  let(m,l,f,g,o):=h;erw[td,i m,d l,on];have c:clsP k b (on b)=#v[.pt k b .nil,true]:=by ext clsP;rw[Y28 g,nc f,Y18 o]
  rw[c];cases e:isNil r with
  | true=>have:=isNil_eq e;subst this;simp[on,app,f]
  | false=>simp[app]
end TD
namespace TD
variable{α:Type}
section
variable{f:Nat->Nat}{P:Nat->Prop}(inj:∀a b,P a->P b->f a=f b->a=b)
include inj
theorem Z17{k:Nat}(d:P k)(s:Fm α)(h:∀n,hl n s=true->P n):hl (f k) (ren f s)=hl k s:=by
 induction s with
 | nil=>rfl
 | act a r c=>show c h
 | fin a r c=>show c h
 | ag n r c=>show c h
 | lv n r c=>erw[hl,ren,Bool.or_eq_true] at h |-;rw[c λm z=>h m (.inr z)];have:decide (f n=f k)=decide (n=k):=decide_eq_decide.mpr (λz=>inj n k (h n (.inl 's')) d z,λz=>by rw[z]);rw[this]
 | ch a y n r i j c=>erw[hl,ren,Bool.or_eq_true] at h |-;rw[i λm z=>h m (.inl (.inl z)),j λm z=>h m (.inl (.inr z)),c λm z=>h m (.inr z)]
 | rd l b r i c=>erw[hl,ren,Bool.or_eq_true] at h |-;rw[i λm z=>h m (.inl z),c λm z=>h m (.inr z)]
 | pt l b r i c=>erw[hl,ren,Bool.or_eq_true] at h |-;rw[i λm z=>h m (.inl z),c λm z=>h m (.inr z)]
theorem Yl3{k:Nat}(d:P k)(s:Fm α)(h:∀n,ha n s=true->P n):ha (f k) (ren f s)=ha k s:=by
 induction s with
 | nil=>rfl
 | act a r c=>show c h
 | fin a r c=>show c h
 | lv n r c=>show c h
 | ag n r c=>erw[ha,ren,Bool.or_eq_true] at h |-;rw[c λm z=>h m (.inr z)];have:decide (f n=f k)=decide (n=k):=decide_eq_decide.mpr (λz=>inj n k (h n (.inl 's')) d z,λz=>by rw[z]);rw[this]
 | ch a y n r i j c=>erw[ha,ren,Bool.or_eq_true] at h |-;rw[i λm z=>h m (.inl (.inl z)),j λm z=>h m (.inl (.inr z)),c λm z=>h m (.inr z)]
 | rd l b r i c=>erw[ha,ren,Bool.or_eq_true] at h |-;rw[i λm z=>h m (.inl z),c λm z=>h m (.inr z)]
 | pt l b r i c=>erw[ha,ren,Bool.or_eq_true] at h |-;rw[i λm z=>h m (.inl z),c λm z=>h m (.inr z)]
theorem Y34{w:Bool}{k:Nat}(d:P k)(s:Fm α)(h:∀n,hl n s=true->P n)(h':∀n,ha n s=true->P n):tl w (f k) (ren f s)=tl w k s:=by
 induction s with
 | nil=>rfl
 | act a r c=>show c h h'
 | fin a r c=>show c h h'
 | lv n r c=>erw[hl,Bool.or_eq_true] at h;erw[tl,ren,isNil_ren];rw[c (λm z=>h m (.inr z)) h'];have:decide (f n=f k)=decide (n=k):=decide_eq_decide.mpr (λz=>inj n k (h n (.inl 's')) d z,λz=>by rw[z]);rw[this]
 | ag n r c=>erw[ha,Bool.or_eq_true] at h';erw[tl,ren,isNil_ren];rw[c h λm z=>h' m (.inr z)];have:decide (f n=f k)=decide (n=k):=decide_eq_decide.mpr (λz=>inj n k (h' n (.inl 's')) d z,λz=>by rw[z]);rw[this]
 | ch a y n r i j c=>erw[hl,Bool.or_eq_true] at h;erw[ha,Bool.or_eq_true] at h';erw[tl,ren,isNil_ren];rw[i (λm z=>h m (.inl (.inl z))) λm z=>h' m (.inl (.inl z)),j (λm z=>h m (.inl (.inr z))) λm z=>h' m (.inl (.inr z)),c (λm z=>h m (.inr z)) λm z=>h' m (.inr z)]
 | rd l b r i c=>erw[hl,Bool.or_eq_true] at h;erw[ha,Bool.or_eq_true] at h';show c (λm z=>h m (.inr z)) λm z=>h' m (.inr z)
 | pt l b r i c=>erw[hl,Bool.or_eq_true] at h;erw[ha,Bool.or_eq_true] at h';show c (λm z=>h m (.inr z)) λm z=>h' m (.inr z)
theorem Zn7(s:Fm α)(c:∀n∈nums s,P n)(h:∀n,hl n s=true->P n):on (ren f s)=on s:=by
 induction s with
 | nil=>rfl
 | act a r d=>show d c h
 | fin a r d=>erw[on,ren,isNil_ren];rw[d c h]
 | lv n r d=>erw[hl,Bool.or_eq_true] at h;erw[on,ren,isNil_ren];rw[d c λm z=>h m (.inr z)]
 | ag n r d=>erw[on,ren,isNil_ren];rw[d c h]
 | ch a y n r i j d=>erw[nums,Am] at c;erw[hl,Bool.or_eq_true] at h;erw[on,ren,isNil_ren];rw[i (λm z=>c m (.inl (.inl z))) λm z=>h m (.inl (.inl z)),j (λm z=>c m (.inl (.inr z))) λm z=>h m (.inl (.inr z)),d (λm z=>c m (.inr z)) λm z=>h m (.inr z)]
 | rd l b r i d=>erw[nums,Ab,Am] at c;erw[hl,Bool.or_eq_true] at h;erw[on,ren,isNil_ren];rw[Z17 inj (c l (.inl rfl)) b λm z=>h m (.inl z),d (λm z=>c m (.inr (.inr z))) λm z=>h m (.inr z)]
 | pt l b r i d=>erw[nums,Ab,Am] at c;erw[hl,Bool.or_eq_true] at h;erw[on,ren,isNil_ren];rw[Z17 inj (c l (.inl rfl)) b λm z=>h m (.inl z),i (λm z=>c m (.inr (.inl z))) λm z=>h m (.inl z),d (λm z=>c m (.inr (.inr z))) λm z=>h m (.inr z)]
theorem Y57(s:Fm α)(c:∀n∈nums s,P n)(h:∀n,hl n s=true->P n)(h':∀n,ha n s=true->P n)(t:Tdy s):Tdy (ren f s):=by
 induction s with
 | nil=>trivial
 | act a r d=>show d c h h' t
 | fin a r d=>show(isNil_ren f r).trans t
 | lv n r d=>show(isNil_ren f r).trans t
 | ag n r d=>show(isNil_ren f r).trans t
 | ch a y n r i j d=>erw[nums,Am] at c;erw[hl,Bool.or_eq_true] at h;erw[ha,Bool.or_eq_true] at h';let(q,p,o,k):=t;show(i (λm z=>c m (.inl (.inl z))) (λm z=>h m (.inl (.inl z))) (λm z=>h' m (.inl (.inl z))) q,j (λm z=>c m (.inl (.inr z))) (λm z=>h m (.inl (.inr z))) (λm z=>h' m (.inl (.inr z))) p,d (λm z=>c m (.inr z)) (λm z=>h m (.inr z)) (λm z=>h' m (.inr z)) o,?_);rw[isNil_ren,Zn7 inj y (λm z=>c m (.inl (.inl z))) λm z=>h m (.inl (.inl z)),Zn7 inj n (λm z=>c m (.inl (.inr z))) λm z=>h m (.inl (.inr z))];show k
 | rd l b r i d=>
  erw[nums,Ab,Am] at c;erw[hl,Bool.or_eq_true] at h;erw[ha,Bool.or_eq_true] at h';let(q,p,o,k,v):=t;have u:=λm z=>c m (.inr (.inl z));have e:=λm z=>h m (.inl z);have g:=λm z=>h' m (.inl z);show(i u e g q,d (λm z=>c m (.inr (.inr z))) (λm z=>h m (.inr z)) (λm z=>h' m (.inr z)) p,?_,?_,?_)
  .rw[Zn7 inj b u e,Yl3 inj (c l (.inl rfl)) b g];show o
  .rw[Y34 inj (c l (.inl rfl)) b e g];show k
  .rw[isNil_ren,Z17 inj (c l (.inl rfl)) b e];show v
 | pt l b r i d=>
  erw[nums,Ab,Am] at c;erw[hl,Bool.or_eq_true] at h;erw[ha,Bool.or_eq_true] at h';let(q,p,o,k,v):=t;have u:=λm z=>c m (.inr (.inl z));have e:=λm z=>h m (.inl z);have g:=λm z=>h' m (.inl z);show(i u e g q,d (λm z=>c m (.inr (.inr z))) (λm z=>h m (.inr z)) (λm z=>h' m (.inr z)) p,?_,?_,?_)
  .rw[Z17 inj (c l (.inl rfl)) b e];show o
  .rw[Y34 inj (c l (.inl rfl)) b e g];show k
  .have:rd1 (ren f b)=rd1 b:=by cases b<;>first | rfl | show isNil_ren f _
   rw[this];show v
end
def Yp1{f:Nat->Nat}(s:Fm α)(c:∀n∈nums s,f n=n)(h:∀n,hl n s=true->f n=n)(h':∀n,ha n s=true->f n=n):ren f s=s:=by
 induction s with
 | nil=>rfl
 | act a r d=>erw[ren,d c h h']
 | fin a r d=>erw[ren,d c h h']
 | lv n r d=>erw[hl,Bool.or_eq_true] at h;erw[ren,d c (λm z=>h m (.inr z)) h',h n (.inl 's')]
 | ag n r d=>erw[ha,Bool.or_eq_true] at h';erw[ren,d c h λm z=>h' m (.inr z),h' n (.inl 's')]
 | ch a y n r i j d=>erw[nums,Am] at c;erw[hl,Bool.or_eq_true] at h;erw[ha,Bool.or_eq_true] at h';erw[ren,i (λm z=>c m (.inl (.inl z))) (λm z=>h m (.inl (.inl z))) (λm z=>h' m (.inl (.inl z))),j (λm z=>c m (.inl (.inr z))) (λm z=>h m (.inl (.inr z))) (λm z=>h' m (.inl (.inr z))),d (λm z=>c m (.inr z)) (λm z=>h m (.inr z)) (λm z=>h' m (.inr z))]
 | rd l b r i d=>erw[nums,Ab,Am] at c;erw[hl,Bool.or_eq_true] at h;erw[ha,Bool.or_eq_true] at h';erw[ren,c l (.inl rfl),i (λm z=>c m (.inr (.inl z))) (λm z=>h m (.inl z)) (λm z=>h' m (.inl z)),d (λm z=>c m (.inr (.inr z))) (λm z=>h m (.inr z)) (λm z=>h' m (.inr z))]
 | pt l b r i d=>erw[nums,Ab,Am] at c;erw[hl,Bool.or_eq_true] at h;erw[ha,Bool.or_eq_true] at h';erw[ren,c l (.inl rfl),i (λm z=>c m (.inr (.inl z))) (λm z=>h m (.inl z)) (λm z=>h' m (.inl z)),d (λm z=>c m (.inr (.inr z))) (λm z=>h m (.inr z)) (λm z=>h' m (.inr z))]
def tdd(s:Fm α):Fm α:=ren (nums (td s).1).idxOf (td s).1
structure Cl(s:Fm α):Prop where
 l:∀n,hl n s=true->n∈nums s
 a:∀n,ha n s=true->n∈nums s
def map_idx{xs:LQ}(a:xs.Nodup):xs.map xs.idxOf=Dn xs.length:=by
 apply List.ext_getElem
 .simp
 .intro i b c;rw[List.getElem_map,List.getElem_range];show a.idxOf_getElem i ↥b
def tdd_Td{s:Fm α}(d:(nums s).Nodup)(c:Cl (td s).1):Tdy (tdd s)/\nums (tdd s)=Dn (nums (tdd s)).length:=by
 show(Y57 (P:=(·∈nums (td s).1)) (λa b e _ z=>C5 e z) _ (λn h=>h) c.l c.a (Yx7 s d).1,?_);have:nums (tdd s)=Dn (nums (td s).1).length:=by ext tdd;rw[nums_ren,map_idx ((Ve s).nodup d)]
 rw[this,List.length_range]
def tdd_fix{s:Fm α}(t:Tdy s)(h:nums s=Dn (nums s).length)(c:Cl s):tdd s=s:=by
 have e:(td s).1=s:=by rw[Yl7 s t]
 ext tdd;rw[e];have b:∀n∈nums s,(nums s).idxOf n=n:=λn i=>by
  have l:n< (nums s).length:=by rw[h] at i;show Lm.mp i
  have g:(nums s)[n]'l=n:=by
   have:∀(d:LQ) (f:d=Dn (nums s).length) (l:n<d.length),d[n]=n:=λd f l=>by subst f;simp
   show this (nums s) h l
  have j:(nums s).Nodup:=by rw[h];show List.nodup_range
  have:=j.idxOf_getElem n l;rwa[g] at this
 show Yp1 s b (λn z=>b n (c.l n z)) λn z=>b n (c.a n z)
end TD
namespace K61
open PySem PySem.Spec PyProof.Rows L2 L3 U
variable{K:Aa}
abbrev Rd(K:Aa)(Γ:List DSp)(G:LD)(sp:DSp)(b:Ss)(N:LS):Prop:=∀ds M Q Z,sp ds M Q Z->tss (K,Γ,G) noX b {nx:=λ_ M=>Q .non M,rt:=Q} (start0 N ds) M
def FN:LS:="line_of"::"told_within"::"lines_of"::"lists_in"::"form_of"::"Opened.tell"::"Opened.begin_no"::"with_number"::"renumbered"::"cut_tails"::"has_line"::"with_other"::"closed_part"::"closed_round"::"closed"::"tidied"::"_law_cell"::"_law_mixed"::"_law_names"::"_law_operand"::"_law_deed"::"_law_closed"::"_law_goto"::"_law_opened"::"_law_closed_too"::"_law_step"::"_law_form"::"_law_has"::"_law_on"::"_law_at_tail"::"_law_tidy_one"::"_law_tidy"::"_law_whole"::"_law_operands"::"_law_shape_one"::"_law_shape"::"_law_alike"::"_law_numbered"::"_law_leaving"::"_law_wrapped"::"_law_tidy_stays"::"_law_spoilt"::"law"::[]
def GN:LS:=["ELSE","DONE","OPENERS","Opened"]
def BN:LS:=["list","reversed","tuple","dict","enumerate","len","any","range","isinstance","bool","int","str"]
abbrev Zd1:Stmt:=top 5
def Fc:LS:=["statement"]
section
local macro_rules | `(#[$x,*])=>do
 let mut r<-`(.nil)
 for y in x.getElems.reverse do r<-`(.cons $(<-tmI y) $r)
 return r
local macro_rules | `($a :: $b)=>do `(.cons $(<-tmI a) $b)
local macro_rules | `($a[$i])=>do `(.ix $(<-tmI a) $(<-tmI i))
local macro_rules | `($a + $b)=>do `(.bin .add $(<-tmI a) $(<-tmI b))
local macro_rules | `($a - $b)=>do `(.bin .sub $(<-tmI a) $(<-tmI b))
local macro_rules | `($a * $b)=>do `(.bin .mul $(<-tmI a) $(<-tmI b))
local macro_rules | `($a / $b)=>do `(.bin .fdiv $(<-tmI a) $(<-tmI b))
local macro_rules | `($a % $b)=>do `(.bin .mod $(<-tmI a) $(<-tmI b))
local macro_rules | `($a == $b)=>do `(.cmp .eq $(<-tmI a) $(<-tmI b))
local macro_rules | `($a != $b)=>do `(.cmp .ne $(<-tmI a) $(<-tmI b))
local macro_rules | `($a < $b)=>do `(.cmp .lt $(<-tmI a) $(<-tmI b))
local macro_rules | `($a > $b)=>do `(.cmp .gt $(<-tmI a) $(<-tmI b))
local macro_rules | `($a ∈ $b)=>do `(.cmp .isin $(<-tmI a) $(<-tmI b))
noncomputable def Tl:Ss:=#[.ret (.var 0)]
def W1:Ss:=(.ite (v0[0]∈(.tup #["round","part"])) #[.ret (.slW (.var 0) .no (.yes (.int 2)))] .nil)::Tl
def Fi:Ss:=(.ite (v0[0]=="choice") #[.ret (.sl (.var 0) .no (.yes (.int 4)))] .nil)::W1
abbrev Jw:Stmt:=top 6
def Yl:LS:=["statement","yes","no"]
def Vn:Ss:=#[.ret (((v1+(.lst #[.glb 0]))+v2)+(.lst #[.glb 1]))]
def Vg:Ss:=(.set [1,2] (.sl (.var 0) (.yes (.int 4)) .no))::(.ite (v2==(.lst .nil)) #[.ret (v1+(.lst #[.glb 1]))] .nil)::Vn
def X1:Ss:=(.ite (v0[0] !="choice") #[.ret (.lst .nil)] .nil)::Vg
def Ym:Ss:=(.ite (v0[0]∈(.tup #["round","part"])) #[.ret (v0[2]+(.lst #[.glb 1]))] .nil)::X1
abbrev Z90:Stmt:=top 4
def N6:LS:=["form","told","left","statement"]
def Q6:Ss:=#[.ret (.var 1)]
def Q1:Ss:=#[.set [3] (.mt .pop0 (.var 2) .nil),.expr (.mt .append (.var 1) #[.call 0 #[v3]]),.expr (.mt .extend (.var 2) #[.lrev (.call 1 #[v3])])]
def Ng:Ss:=(.set [1] (.lst .nil))::(.set [2] (.lrev (.var 0)))::(.while_ (v2 !=(.lst .nil)) Q1)::Q6
abbrev Z98:Stmt:=top 8
def N4:LS:=["line"]
def Rz:Ss:=#[.ret (.lst .nil)]
def Rx:Ss:=(.ite (v0[0]∈(.tup #["round","part"])) #[.ret (.lst #[.lst .nil])] .nil)::Rz
def Nh:Ss:=(.ite (v0[0]=="choice") #[.ret (.lst #[.lst .nil,.lst .nil])] .nil)::Rx
abbrev Zm1:Stmt:=top 7
def Fb:LS:=["lines","form","opened","line","lists"]
def O2:Ss:=#[.ret (.var 1)]
def Qt:Ss:=#[.ite (v3==(.glb 1)) #[.expr (.mt .pop0 (.var 2) .nil)] #[.ite (v3==(.glb 0)) #[.expr (.mt .popi v2[.neg (.int 1)] #[0])] #[.set [4] (.call 3 #[v3]),.expr (.mt .append v2[.neg (.int 1)][0] #[v3+(.bf .tuple1 #[v4])]),.ite (v4 !=(.lst .nil)) #[.expr (.mt .append (.var 2) #[v4])] .nil]]]
def Fa:Ss:=(.set [1] (.lst .nil))::(.set [2] (.lst #[.lst #[v1]]))::(.for_ [3] (.seq (.var 0)) Qt)::O2
abbrev Rm:Stmt:=mth (top 10) 1
def Zf5:LS:=["self","statements","going"]
def Zm2:Ss:=#[.ite (.fld (.var 0) "goings")[.neg (.int 1)] #[.expr (.mt .extend (.fld (.var 0) "lists")[.neg (.int 1)] #[v1]),.put (.fld (.var 0) "goings") (.neg (.int 1)) (.var 2)] .nil]
abbrev X7:Stmt:=mth (top 10) 2
def O6:LS:=["self"]
def Pm:Ss:=#[.expr (.mt .append (.fld (.var 0) "lists") #[.lst .nil]),.expr (.mt .append (.fld (.var 0) "goings") #[.bl true])]
abbrev G4:Stmt:=top 19
def Sm:LS:=["line","numbers"]
def Xy:Ss:=#[.ret (.var 0)]
def S9:Ss:=(.ite (v0[0]∈(.tup #["round","part","leave","again"])) #[.ret (.tup #[v0[0],v1[v0[1]]])] .nil)::Xy
abbrev F6:Stmt:=top 18
def Q2:LS:=["form","lines","olds","numbers"]
def Q8:Ss:=#[.set [1] (.call 2 #[v0]),.set [2] (.comp ["line"] [none] [0] (.seq (.var 1)) (.yes (v0[0]∈(.tup #["round","part"]))) v0[1]),.set [3] (.bf .dict1 #[.comp ["number","old"] [none,none] [0,1] (.enm (.var 2)) .no (.tup #[v1,v0])]),.ret (.call 4 #[.comp ["line","numbers"] [none,some 3] [0] (.seq (.var 1)) .no (.call 7 #[v0,v1])])]
abbrev Cz:Stmt:=top 17
def Pn:LS:=["statements","jump","left","tail"]
def Xo:Ss:=#[.ite (.bop true #[v3 !=(.lst .nil),(v3[.neg (.int 1)][0])=="choice"]) #[.expr (.mt .extend (.var 2) #[.sl v3[.neg (.int 1)] (.yes (.int 4)) .no])] .nil]
def Se:Ss:=(.set [3] (.mt .pop0 (.var 2) .nil))::(.ite (.bop true #[v3 !=(.lst .nil),(v3[.neg (.int 1)])==v1]) #[.expr (.mt .pop0 (.var 3) .nil)] .nil)::Xo
def Pl:Ss:=#[.set [2] (.lst #[v0]),.while_ (v2 !=(.lst .nil)) Se]
abbrev Z58:Stmt:=top 15
def Oi:LS:=["statements","line"]
def Nc:Ss:=#[.ret (v1∈(.call 2 #[v0]))]
abbrev Gp:Stmt:=top 16
def Qa:LS:=["statements","line","other"]
def Rv:Ss:=#[.ret (.call 4 #[.comp ["told","line","other"] [none,some 1,some 2] [0] (.seq (.call 2 #[v0])) .no (.ife (v0==v1) (.var 2) (.var 0))])]
abbrev Nq:Stmt:=top 14
def Sk:LS:=["number","body","going","leave"]
def Yz:Ss:=#[.ret (.tup #[.lst #[.tup #["part",v0,v1]],.bl true])]
def Yy:Ss:=(.ite (.bop true #[(.bf .len #[v1])==1,v1[0][0]=="round"]) #[.ret (.tup #[.call 11 #[v1,v3,.tup #["leave",v1[0][1]]],.bl true])] .nil)::Yz
def Sw:Ss:=(.set [3] (.tup #["leave",v0]))::(.set [2] (.bop false #[v2,.call 10 #[v1,v3]]))::(.expr (.call 9 #[v1,v3]))::(.ite (.not (.call 10 #[v1,v3])) #[.ret (.tup #[v1,v2])] .nil)::Yy
abbrev Of:Stmt:=top 13
def Te:LS:=["number","body"]
def Tj:Ss:=#[.expr (.call 9 #[v1,.tup #["again",v0]]),.ret (.tup #[.lst #[.tup #["round",v0,v1]],.call 10 #[v1,.tup #["leave",v0]]])]
abbrev Zx4:Stmt:=top 12
def Z03:LS:=["done","number","body"]
def Rk:Ss:=#[.ret (.call 12 #[v1,v2,.bl false])]
def Vt:Ss:=(.ite (.bop false #[(.fld (.var 0) "goings")[0],.call 10 #[v2,.tup #["again",v1]]]) #[.ret (.call 13 #[v1,v2])] .nil)::Rk
def Vz:Ss:=(.set [1] (.fld (.var 0) "line")[1])::(.set [2] (.fld (.var 0) "lists")[0])::(.ite (((.fld (.var 0) "line")[0])=="part") #[.ret (.call 12 #[v1,v2,(.fld (.var 0) "goings")[0]])] .nil)::Vt
def Vv:Ss:=#[.ret (.tup #[.lst #[(.fld (.var 0) "line")+(.bf .tuple1 #[.fld (.var 0) "lists"])],.anyf (.fld (.var 0) "goings")])]
def Bv:Ss:=(.ite (((.fld (.var 0) "line")[0])=="choice") ((.ite ((.bf .len #[.fld (.var 0) "lists"])==1) #[.expr (.meO 3 6 (.var 0) .nil)] .nil)::Vv) .nil)::Vz
abbrev Zw2:Stmt:=top 11
def Bg:LS:=["form","opened","line","statements","going"]
def Rq:Ss:=#[.ret (.call 8 #[(.fld v1[0] "lists")[0]])]
def Y3:Ss:=#[.ite (v2==(.glb 0)) #[.expr (.meO 3 6 v1[.neg (.int 1)] .nil)] #[.ite (v2==(.glb 1)) #[.set [3,4] (.call 14 #[.mt .pop0 (.var 1) .nil]),.expr (.meO 3 5 v1[.neg (.int 1)] #[v3,v4])] #[.ite (v2[0]∈(.glb 2)) #[.expr (.mt .append (.var 1) #[.mkO 3 (.var 2)])] #[.expr (.meO 3 5 v1[.neg (.int 1)] #[.lst #[v2],v2[0]=="sum"])]]]]
def Z24:Ss:=(.set [1] (.lst #[.mkO 3 .non]))::(.for_ [2] (.seq (.call 2 #[v0])) Y3)::Rq
abbrev Y97:Stmt:=top 21
def Zn0:LS:=["_law_script","_law_k"]
def E7:Ss:=#[.ret (.int 0)]
def Zh6:Ss:=(.ite (v1<(.bf .len #[v0])) #[.ret v0[v1]] .nil)::E7
abbrev Zt1:Stmt:=top 22
def Z12:LS:=["_law_cell_here","_law_k","_law_number"]
def Z29:Ss:=#[.set [2] (((((v0%2147483647)*48271)+((7919*v1)*v1))+104729)%2147483647),.ret ((v2*v2)%2147483629)]
abbrev Zw7:Stmt:=top 23
def Z18:LS:=["_law_cell_here","_law_some"]
def Z28:Ss:=#[.set [1] (.lst #[.lst #["x","y","z","w"],.lst #["ab","aa","bb","ba"],.lst #["q1","q","q11","q2"]]),.expr (.mt .append (.var 1) #[.lst #["sum1aaaa","sum1aaab","sum2aaaa","tum1aaaa"]]),.ret v1[v0%4]]
abbrev Z78:Stmt:=top 24
def N2:LS:=["_law_number","_law_cell_here","_law_names_here"]
def Qd:Ss:=#[.ret v2[(v0/8)%4]]
def Q3:Ss:=(.ite ((v0%8)<3) #[.ret (((v0/8)%9)-3)] .nil)::Qd
def Os:Ss:=(.ite ((v0%8)==0) #[.ret ((v1%((2*(.bin .pow (.int 10) (.int 18)))+1))-(.bin .pow (.int 10) (.int 18)))] .nil)::Q3
abbrev Yc4:Stmt:=top 25
def Zh4:LS:=["_law_number","_law_cell_here","_law_names_here","_law_one","_law_other"]
def Pp:Ss:=#[.ret (.tup #["choice",v3,(.lst #["<","="])[(v0/193)%2],v4])]
def Zg6:Ss:=(.set [3] (.call 19 #[v0/16,v1,v2]))::(.set [4] (.call 19 #[v0/1024,v1/3,v2]))::(.ite (((v0/97)%2)==0) #[.ret (.tup #["sum",v2[(v0/389)%4],v3,(.lst #["+","-","/","rest","&","^"])[(v0/193)%6],v4])] .nil)::Pp
abbrev Ze0:Stmt:=top 26
def Gn:LS:=["_law_frames","_law_top"]
def Gm:Ss:=#[.set [1] (.mt .pop0 (.var 0) .nil),.ite (.bop true #[v1[0][0]=="choice",(.bf .len #[v1])==2]) #[.expr (.mt .append (.var 0) #[v1+(.lst #[.lst .nil])])] #[.ite (v1[0][0]=="choice") #[.expr (.mt .append v0[.neg (.int 1)][.neg (.int 1)] #[v1[0]+(.tup #[v1[1],v1[2]])])] #[.expr (.mt .append v0[.neg (.int 1)][.neg (.int 1)] #[v1[0]+(.tup #[v1[1]])])]]]
abbrev Ye1:Stmt:=top 27
def Zk8:LS:=["_law_frames","_law_number","_law_word","_law_some"]
def Zk0:Ss:=#[.set [3] (.comp ["_law_top","_law_word"] [none,some 2] [0] (.seq (.sl (.var 0) (.yes (.int 1)) .no)) (.yes (.bop false #[v0[0][0]=="round",.bop true #[v0[0][0]=="part",v1=="leave"]])) v0[0][1]),.ite (v3 !=(.lst .nil)) #[.expr (.mt .append v0[.neg (.int 1)][.neg (.int 1)] #[.tup #[v2,v3[v1%(.bf .len #[v3])]]])] .nil]
abbrev Zj1:Stmt:=top 28
def F4:LS:=["_law_frames","_law_number","_law_k","_law_way","_law_head"]
def Tw:Ss:=#[.ite (v3 !=1) #[.expr (.mt .append (.var 0) #[.lst #[.tup #["round",v4+48],.lst .nil]])] .nil]
def Gz:Ss:=(.set [3] (v1%3))::(.set [4] ((97*v2)+((v1/3)%48)))::(.ite (v3>0) #[.expr (.mt .append (.var 0) #[.lst #[.tup #["part",v4],.lst .nil]])] .nil)::Tw
abbrev G0:Stmt:=top 29
def Sf:LS:=["_law_frames","_law_number"]
def Sa:Ss:=#[.ite (.bop true #[(v1%2)==0,(.bf .len #[v0])>1]) #[.expr (.call 21 #[v0])] .nil]
abbrev Yh7:Stmt:=top 30
def Zb8:LS:=["_law_frames","_law_cell_here","_law_k","_law_names_here","_law_number","_law_way","_law_deed_here"]
def Zd6:Ss:=#[.set [4] (.call 17 #[v1,v2]),.set [5] (v4%20),.ite (v5<8) #[.set [6] (.call 20 #[v4/20,v1,v3]),.ite (v6[0]=="sum") #[.expr (.mt .append v0[.neg (.int 1)][.neg (.int 1)] #[v6])] #[.ite ((.bf .len #[v0])<30) #[.expr (.mt .append (.var 0) #[.lst #[v6,.lst .nil]])] .nil]] #[.ite (.bop true #[v5<11,(.bf .len #[v0])<29]) #[.expr (.call 23 #[v0,v4/20,v2])] #[.ite (v5<14) #[.expr (.call 22 #[v0,v4/40,(.lst #["leave","leave","again"])[v5%3]]),.expr (.call 24 #[v0,v4/20])] #[.ite (v5==14) #[.expr (.mt .append v0[.neg (.int 1)][.neg (.int 1)] #[.tup #["end"]]),.expr (.call 24 #[v0,v4/20])] #[.ite ((.bf .len #[v0])>1) #[.expr (.call 21 #[v0]),.expr (.call 24 #[v0,v4/20])] .nil]]]]]
abbrev Ya4:Stmt:=top 31
def Zq0:LS:=["_law_cells","_law_names_here","_law_frames","_law_k"]
def Pk:Ss:=#[.ret v2[0][1]]
def Qy:Ss:=#[.expr (.call 21 #[v2])]
def Pe:Ss:=(.while_ ((.bf .len #[v2])>1) Qy)::Pk
def E9:Ss:=#[.expr (.call 25 #[v2,v0[v3],v3,v1])]
def Zd4:Ss:=(.set [2] (.lst #[.lst #[.tup #["form"],.lst .nil]]))::(.for_ [3] (.rng1 (.bf .len #[v0])) E9)::Pe
abbrev Yp8:Stmt:=top 32
def Zo8:LS:=["_law_form_here","_law_word","_law_statement","_law_part"]
def Bq:Ss:=#[.ret (.bl false)]
def Z13:Ss:=#[.ite (.bop true #[.bf .isinst #[v3,.ty .list],.call 27 #[v3,v1]]) #[.ret (.bl true)] .nil]
def Z22:Ss:=#[.for_ [3] (.seq (.var 2)) Z13]
def Bc:Ss:=(.ite (v2==v1) #[.ret (.bl true)] .nil)::Z22
def Zb0:Ss:=(.for_ [2] (.seq (.var 0)) Bc)::Bq
abbrev Yy2:Stmt:=top 33
def Yb8:LS:=["_law_form_here","_law_last"]
def Pc:Ss:=#[.ret (v1[0]=="sum")]
def Tq:Ss:=(.ite (.bop false #[v1[0]=="part",v1[0]=="round"]) #[.ret (.call 27 #[v1[2],.tup #["leave",v1[1]]])] .nil)::Pc
def Tt:Ss:=(.ite (.bop true #[v1[0]=="part",.call 28 #[v1[2]]]) #[.ret (.bl true)] .nil)::Tq
def Zp8:Ss:=(.set [1] v0[.neg (.int 1)])::(.ite (v1[0]=="choice") #[.ret (.bop false #[.call 28 #[v1[4]],.call 28 #[v1[5]]])] .nil)::Tt
def Yd0:Ss:=(.ite (v0==(.lst .nil)) #[.ret (.bl true)] .nil)::Zp8
abbrev Z77:Stmt:=top 34
def Re:LS:=["_law_form_here","_law_word"]
def Q0:Ss:=#[.ret ((v0[.neg (.int 1)])==v1)]
def Q9:Ss:=(.ite ((v0[.neg (.int 1)][0])=="choice") #[.ret (.bop false #[.call 29 #[v0[.neg (.int 1)][4],v1],.call 29 #[v0[.neg (.int 1)][5],v1]])] .nil)::Q0
def Rp:Ss:=(.ite (v0==(.lst .nil)) #[.ret (.bl false)] .nil)::Q9
abbrev Ey:Stmt:=top 35
def Ww:LS:=["_law_statement","_law_leave","_law_again"]
def Sl:Ss:=#[.ret (.bl true)]
def Wr:Ss:=#[.ret (.not (.call 29 #[v0[2],v2]))]
def Xr:Ss:=(.ite (v0[0]=="round") ((.set [2] (.tup #["again",v0[1]]))::(.ite (.bop true #[.not (.call 28 #[v0[2]]),.not (.call 27 #[v0[2],v2])]) #[.ret (.bl false)] .nil)::Wr) .nil)::Sl
def V1:Ss:=#[.ret (.bop true #[.call 27 #[v0[2],v1],.not (.call 29 #[v0[2],v1])])]
def Wv:Ss:=(.ite (v0[0]=="part") ((.set [1] (.tup #["leave",v0[1]]))::(.ite (.bop true #[(.bf .len #[v0[2]])==1,v0[2][0][0]=="round"]) #[.ret (.bl false)] .nil)::V1) .nil)::Xr
abbrev Ye8:Stmt:=top 36
def Cp:LS:=["_law_form_here","_law_marks","_law_k","_law_part"]
def V9:Ss:=#[.ret (.bl true)]
def Fk:Ss:=#[.ite (.bop true #[.bf .isinst #[v3,.ty .list],.not (.call 31 #[v3,v1])]) #[.ret (.bl false)] .nil]
def Sg:Ss:=#[.for_ [3] (.seq v0[v2]) Fk]
def Pg:Ss:=(.ite (.bop false #[v0[v2][0]=="part",v0[v2][0]=="round"]) #[.expr (.mt .append (.var 1) #[v0[v2][1]])] .nil)::Sg
def Fe:Ss:=(.ite (.bop false #[.bop true #[v2>0,.not (.call 28 #[.sl (.var 0) .no (.yes (.var 2))])],.not (.call 30 #[v0[v2]])]) #[.ret (.bl false)] .nil)::Pg
def Cc:Ss:=(.for_ [2] (.rng1 (.bf .len #[v0])) Fe)::V9
abbrev Zz2:Stmt:=top 37
def Bz:LS:=["_law_thing"]
def Z34:Ss:=#[.ret (.bop true #[.bf .isinst #[v0,.ty .int],.not (.bf .isinst #[v0,.ty .bool])])]
abbrev Ez:Stmt:=top 38
def Pb:LS:=["_law_statement","_law_part"]
def So:Ss:=#[.ret (.bl true)]
def Sy:Ss:=#[.ite (.bop true #[.not (.bf .isinst #[v1,.ty .str]),.not (.call 32 #[v1])]) #[.ret (.bl false)] .nil]
def O9:Ss:=(.for_ [1] (.seq (.var 0)) Sy)::So
abbrev Gq:Stmt:=top 40
def Y6:LS:=["_law_statement","_law_opened_here","_law_word"]
def Tg:Ss:=#[.ret (v0==(.tup #["end"]))]
def We:Ss:=#[.ret (.bop false #[(.tup #["round",v0[1]])∈v1,.bop true #[v2=="leave",(.tup #["part",v0[1]])∈v1]])]
def Xa:Ss:=(.ite (.bop false #[v2=="leave",v2=="again"]) ((.ite (.bop false #[(.bf .len #[v0]) !=2,.not (.call 32 #[v0[1]])]) #[.ret (.bl false)] .nil)::We) .nil)::Tg
def Wf:Ss:=#[.ret (.call 35 #[v0[2],v1+(.lst #[.tup #[v2,v0[1]]])])]
def Yg:Ss:=(.ite (.bop false #[v2=="round",v2=="part"]) ((.ite (.bop false #[(.bf .len #[v0]) !=3,.not (.call 32 #[v0[1]])]) #[.ret (.bl false)] .nil)::Wf) .nil)::Xa
def Tf:Ss:=#[.ret (.bop true #[.call 35 #[v0[4],v1],.call 35 #[v0[5],v1]])]
def Zz:Ss:=(.ite (v2=="choice") ((.ite (.bop false #[(.bf .len #[v0]) !=6,.not (.call 33 #[.sl (.var 0) .no (.yes (.int 4))])]) #[.ret (.bl false)] .nil)::Tf) .nil)::Yg
def Y5:Ss:=(.set [2] v0[0])::(.ite (v2=="sum") #[.ret (.bop true #[(.bf .len #[v0])==5,.call 33 #[v0]])] .nil)::Zz
abbrev Zu2:Stmt:=top 39
def J6:LS:=["_law_form_here","_law_opened_here","_law_statement"]
def Ov:Ss:=#[.ret (.bl true)]
def Nb:Ss:=#[.ite (.bop false #[.not (.bf .isinst #[v2,.ty .tuple]),.not (.call 34 #[v2,v1])]) #[.ret (.bl false)] .nil]
def Nj:Ss:=(.for_ [2] (.seq (.var 0)) Nb)::Ov
def G2:Ss:=(.ite (.not (.bf .isinst #[v0,.ty .list])) #[.ret (.bl false)] .nil)::Nj
abbrev Zv2:Stmt:=top 41
def T6:LS:=["_law_found","_law_due","_law_k"]
def Oh:Ss:=#[.ret (.bl true)]
def Oz:Ss:=#[.ite (.not (.call 36 #[v0[v2],v1[v2]])) #[.ret (.bl false)] .nil]
def Ox:Ss:=(.for_ [2] (.rng1 (.bf .len #[v1])) Oz)::Oh
def Rj:Ss:=(.ite ((.bf .len #[v0]) !=(.bf .len #[v1])) #[.ret (.bl false)] .nil)::Ox
def Rs:Ss:=(.ite (.bf .isinst #[v1,.ty .tuple]) #[.ite (.not (.bf .isinst #[v0,.ty .tuple])) #[.ret (.bl false)] .nil] #[.ite (.not (.bf .isinst #[v0,.ty .list])) #[.ret (.bl false)] .nil])::Rj
def Vu:Ss:=(.ite (.bf .isinst #[v1,.ty .str]) #[.ret (.bop true #[.bf .isinst #[v0,.ty .str],v0==v1])] .nil)::Rs
def Wq:Ss:=(.ite (.bf .isinst #[v1,.ty .int]) #[.ret (.bop true #[.bf .isinst #[v0,.ty .int],.not (.bf .isinst #[v0,.ty .bool]),v0==v1])] .nil)::Vu
def Xu:Ss:=(.ite (.bf .isinst #[v1,.ty .bool]) #[.ret (.bop true #[.bf .isinst #[v0,.ty .bool],v0==v1])] .nil)::Wq
def Vy:Ss:=(.ite (.cmp .is (.var 1) .non) #[.ret (.cmp .is (.var 0) .non)] .nil)::Xu
abbrev El:Stmt:=top 42
def Tv:LS:=["_law_form_here","_law_places","_law_found","_law_statement","_law_number","_law_yes"]
def S5:Ss:=#[.ret (.var 2)]
def Xp:Ss:=#[.expr (.mt .append (.var 2) #[v3])]
def Zb:Ss:=(.ite (.bop false #[v3[0]=="round",v3[0]=="part"]) #[.put (.var 1) v3[1] (.bf .len #[v1]),.set [4] v1[v3[1]],.set [3] (.tup #[v3[0],v4,.call 37 #[v3[2],v1]])] #[.ite (.bop false #[v3[0]=="leave",v3[0]=="again"]) #[.set [3] (.tup #[v3[0],v1[v3[1]]])] #[.ite (v3[0]=="choice") #[.set [5] (.call 37 #[v3[4],v1]),.set [3] ((.sl (.var 3) .no (.yes (.int 4)))+(.tup #[v5,.call 37 #[v3[5],v1]]))] .nil]])::Xp
def Tu:Ss:=(.set [2] (.lst .nil))::(.for_ [3] (.seq (.var 0)) Zb)::S5
abbrev Z71:Stmt:=top 43
def N3:LS:=["_law_number","_law_cell_here"]
def N0:Ss:=#[.ret (.tup #["choice","x","<",v1%(.bin .pow (.int 10) (.int 18)),.lst #[.tup #["leave",v0]],.lst .nil])]
abbrev Za2:Stmt:=top 44
def Ou:LS:=["_law_body","_law_cell_here","_law_k","_law_number","_law_deed_here","_law_inner"]
def Ru:Ss:=#[.ret (.lst #[.tup #["part",(2*v2)+1,(.lst #[.call 38 #[(2*v2)+1,v1]])+v0],v4])]
def Qe:Ss:=(.ite ((v3%4)==2) #[.set [5] (((.lst #[.call 38 #[(2*v2)+1,v3]])+v0)+(.lst #[.tup #["again",2*v2]])),.ret (.lst #[.tup #["round",2*v2,.lst #[.call 38 #[2*v2,v1],.tup #["part",(2*v2)+1,v5]]]])] .nil)::Ru
def Qc:Ss:=(.ite ((v3%4)==1) #[.ret (.lst #[v4,.tup #["round",2*v2,(.lst #[.call 38 #[2*v2,v1]])+v0]])] .nil)::Qe
def Nm:Ss:=(.set [3] (.call 17 #[v1,v2]))::(.set [4] (.tup #["sum","x","x","+",v3]))::(.ite ((v3%4)==0) #[.ret (.lst #[.tup #["choice","x","=",v1%(.bin .pow (.int 10) (.int 18)),v0,.lst #[v4]],v4])] .nil)::Qc
abbrev J8:Stmt:=top 45
def S7:LS:=["_law_form_here","_law_ordered"]
def Vi:Ss:=#[.ret (.call 36 #[.call 15 #[v1],v1])]
def Sq:Ss:=(.set [1] (.call 37 #[v0,.dict0]))::(.ite (.not (.call 31 #[v1,.lst .nil])) #[.ret (.bl true)] .nil)::Vi
abbrev Zl0:Stmt:=top 46
def Qw:LS:=["_law_form_here","_law_statement","_law_part"]
def Po:Ss:=#[.expr (.mt .append (.var 0) #[.tup #["end"]])]
def O3:Ss:=#[.ite (.bf .isinst #[v2,.ty .list]) #[.expr (.call 41 #[v2])] .nil]
def Pf:Ss:=#[.for_ [2] (.seq (.var 1)) O3]
def Qv:Ss:=(.for_ [1] (.seq (.var 0)) Pf)::Po
abbrev Em:Stmt:=top 47
def Zt3:LS:=["_law_script","_law_names_here","_law_form_here","_law_held","_law_found","_law_marks","_law_again","_law_nest_of","_law_k"]
def Yo0:FnScope Zt3 ["_law_script"] (Zi Em):=(rfl,rfl,rfl,'k',rfl,'k','k')
def C6:Ss:=#[.ret (.bop true #[v2==v3,.call 36 #[.call 15 #[v3],v6]])]
def Bb:Ss:=(.ite (.bop false #[.not (.call 40 #[v2]),.not (.call 40 #[v7])]) #[.ret (.bl false)] .nil)::C6
def Zb5:Ss:=#[.set [7] (.call 39 #[v7,v0[v8],v8])]
def Jc:Ss:=(.expr (.call 41 #[v4]))::(.set [7] (.lst .nil))::(.for_ [8] (.rng1 (.bf .len #[.sl (.var 0) .no (.yes (.int 20))])) Zb5)::Bb
def Jg:Ss:=(.set [6] (.call 15 #[v4]))::(.ite (.not (.call 36 #[v6,v4])) #[.ret (.bl false)] .nil)::Jc
def Jl:Ss:=(.set [5] (.lst .nil))::(.ite (.bop false #[.not (.call 31 #[v4,v5]),v5 !=(.comp ["_law_k"] [none] [0] (.rng1 (.bf .len #[v5])) .no (.var 0))]) #[.ret (.bl false)] .nil)::Jg
def Yi0:Ss:=(.set [1] (.call 18 #[.call 16 #[v0,0]]))::(.set [2] (.call 26 #[.sl (.var 0) (.yes (.int 1)) (.yes (.int 61)),v1]))::(.set [3] (.call 26 #[.sl (.var 0) (.yes (.int 1)) (.yes (.int 61)),v1]))::(.set [4] (.call 15 #[v2]))::(.ite (.bop false #[.not (.call 35 #[v4,.lst .nil]),v2 !=v3]) #[.ret (.bl false)] .nil)::Jl
end
def Yx8:J9 (ck0 Zt3 Em FN GN BN) Yi0 (Y9 Em)=true:='k'
abbrev Ph:Stmt:=mth (top 10) 0
def Zq3:FnScope ["self","line"] ["self","line"] (Zi Ph):=(rfl,rfl,rfl,'k',rfl,'k','k')
def Zw6:Zt5 Ph:=(_,_,_,_,_,_,_,_,_,_,_,_,_,_,_,rfl)
set_option hygiene false
local macro_rules | `(tactic| walk_at "ev")=>do
 let ids:=("tss sret9 sexpr9 sset9 sput9 site9 sfor_9 swhile_9 evar9 eint9 ebl9 enon9 estr9 ety9 eglb9 ebin9 eneg9 enot9 ecmp9 ebop9 eife9 elst9 etup9 edict09 edictT9 eix9 esl9 ecall9 ebf9 eslW9 elrev9 eanyf9 emt9 emkO9 emeO9 efld9 ecomp9 lnil09 lcons19 ono09 oyes19 iseq09 irng119 ienm29 dno09 dyes19 bnil09 bcons19 bcons29 tt op_add_i op_add_s op_add_t op_add_l op_sub_i op_mul_i op_mul_l op_fdiv_i op_mod_i op_pow_i cm_lt_i cm_gt_i cm_eq cm_ne cm_in cm_notin cm_is_n cm_is_i cm_is_s cm_is_b cm_is_t cm_is_r eq_i eq_s eq_b eq_nn eq_is eq_si tru_b tru_i tru_n tru_t ix_t ix_g ix_s sl_s sl_t sl_l is_non is_bl is_int is_str is_tup tyNon tyBl tyInt tyStr tyTup tyLst tyDct bf_len_t bf_len_s bf_is bf_tuple bf_dict on_ref set_f mt_popi_r mk_popi ati0 ati1 ati2 ati3 ati4 ati5 Option.some.injEq exists_eq_left' ofS_inj String.reduceEq mt_append_r mt_pop_r mt_extend_r mt_extend_t mk_append mk_pop mk_extend tg_one tg_two it_r it_t it_g key_i key_s in_ss start0 List.map_cons List.map_nil List.length_cons List.length_nil List.cons_append List.nil_append List.append_nil List.replicate List.set_cons_zero List.set_cons_succ List.getElem?_cons_zero List.getElem?_cons_succ Nat.reduceAdd Nat.reduceSub Nat.sub_self Nat.zero_add decide_eq_true_eq ne_eq Int.reduceEq not_false_eq_true true_and Bool.not_eq_true' decide_eq_false_iff_not Bool.false_eq_true if_true if_false Bool.not_true Bool.not_false".splitOn " ").toArray.map fun s=>Lean.mkIdent s.toName
 `(tactic| first | (dsimp only[$[$ids:ident],*];try simp only[$[$ids:ident],*]) | simp only[$[$ids:ident],*])
structure Ks(F:Nat->Prop)(M M':Z3):Prop where
 at':∀a,¬F a->a<Lg M->M'[a]?=M[a]?
 len:Lg M<=Lg M'
abbrev Kp:Z3->Z3->Prop:=Ks λ_=>False
def Ks.refl(M:Z3):Ks F M M:=(λ_ _ _=>rfl,na _)
def Ks.trans{M M' b:Z3}(h:Ks F M M')(g:Ks F M' b):Ks F M b:=(λa n l=>(g.at' a n (ng l h.len)).trans (h.at' a n l),nh h.len g.len)
def Ks.mono(h:Ks F M M')(k:∀a,a<Lg M->F a->G a):Ks G M M':=(λa n l=>h.at' a (λz=>n (k a l z)) l,h.len)
def Ks.app(h:Ks F M M')(N:Z3):Ks F M (M'++N):=(λa n l=>by rw[Dx (ng l h.len)];show h.at' a n l,nh h.len (by rw[Ac];lia))
def Ks.new(M N:Z3):Ks F M (M++N):=(Ks.refl M).app N
def Ks.set(h:Ks F M M'){a:Nat}(d:F a\/(Lg M)<=a):Ks F M (M'.set a c):=(λb n l=>by
 have:a≠b:=by
  rintro rfl;rcases d with z|z
  .show n z
  .lia
 rw[Dq this];show h.at' b n l,by rw[Dm];show h.len)
def Z9{n:Nat}(h:Zg M n=some xs):n<Lg M:=by
 ext h Zg;rcases Nat.lt_or_ge n (Lg M) with l|l
 .show l
 .rw[Ip l] at h;cases h
def Ks.L{a:Nat}(h:Ks F M M')(n:¬F a)(e:Zg M a=some xs):Zg M' a=some xs:=by unfold Zg at e |-;rw[h.at' a n (Z9 (M:=M) (xs:=xs) e)];show e
def Ks.W{a:Nat}(h:Ks F M M')(n:¬F a)(e:Z2 M a=some xs):Z2 M' a=some xs:=by have l:=Z9 (Z0 e);unfold Z2 at e |-;rw[h.at' a n l];show e
def Ks.pL{M M':Z3}{a:Nat}{xs:LD}(h:Kp M M')(e:Zg M a=some xs):Zg M' a=some xs:=h.L (λz=>z) e
def Ks.pW{M M':Z3}{a:Nat}{xs:LD}(h:Kp M M')(e:Z2 M a=some xs):Z2 M' a=some xs:=h.W (λz=>z) e
def Zd{M:Z3}{n:Nat}{xs:LD}(h:n<Lg M):Z2 (M.set n (.lst xs)) n=some xs:=by ext Z2;rw[Ex h]
def qm{i j:Int}(h:0<j):qmod i j=i % j:=Zy7 h
def qd{i j:Int}(h:0<j):qdiv i j=i / j:=Zt9 h
def Y13{i:Int}{d:D}(h0:0<=i)(h:xs[i.toNat]?=some d):atI xs i=some d:=by have:=Wi h;rwa[Int.toNat_of_nonneg h0] at this
inductive Opd where
 | nm (x:Str) | no (i:Int)
def Opd.d:Opd->D
 | .nm x=> .str x
 | .no i=> .int i
inductive Ln where
 | cond (a:Opd) (s:Str) (b:Opd) | sum (x:Str) (a:Opd) (s:Str) (b:Opd) | rnd (n:Int) | prt (n:Int) | lve (n:Int) | agn (n:Int) | els | don | fin
abbrev LG:=List Ln
def Ln.d:Ln->D
 | .cond a s b=> .tup [.str "choice",a.d,.str s,b.d]
 | .sum x a s b=> .tup [.str "sum",.str x,a.d,.str s,b.d]
 | .rnd n=> .tup [.str "round",.int n]
 | .prt n=> .tup [.str "part",.int n]
 | .lve n=> .tup [.str "leave",.int n]
 | .agn n=> .tup [.str "again",.int n]
 | .els=> .tup [.str "else"]
 | .don=> .tup [.str "done"]
 | .fin=> .tup [.str "end"]
def Ln.beg:Ln->Bool
 | .cond _ _ _ | .rnd _ | .prt _=>true
 | _=>false
def Ln.pl:Ln->Bool
 | .els | .don=>false
 | _=>true
inductive Tp where
 | cif | cel | crd | cpt
def stp:List Tp->Ln->Option (List Tp)
 | a,.cond _ _ _=>some (.cif::a)
 | a,.rnd _=>some (.crd::a)
 | a,.prt _=>some (.cpt::a)
 | .cif::a,.els=>some (.cel::a)
 | _,.els=>none
 | _::a,.don=>some a
 | [],.don=>none
 | a,_=>some a
def run:List Tp->LG->Option (List Tp)
 | a,[]=>some a
 | a,l::b=>(stp a l).bind λt=>run t b
def R0(a b:LG)(st:List Tp):run st (a++b)=(run st a).bind λt=>run t b:=by
 induction a generalizing st with
 | nil=>rfl
 | cons l a c=>
  show(stp st l).bind _=((stp st l).bind _).bind _;cases stp st l with
  | none=>rfl
  | some t=>show c t
def nxt(b:List (Tp×Int)):Ln->List (Tp×Int)->Prop
 | .cond _ _ _,a=>a=b++[#v[.cif,-1]]
 | .rnd n,a=>a=b++[#v[.crd,n]]
 | .prt n,a=>a=b++[#v[.cpt,n]]
 | .els,a=>∃c n,b=c++[#v[.cif,n]]/\a=c++[#v[.cel,-1]]
 | .don,a=>∃x,b=a++[x]
 | _,a=>a=b
def Ti{m n:Nat}(b:Zg M m=some xs)(a:Zg M n=some [])(q:B xs.isEmpty):eqD M (.ref m) (.ref n) B:= .inr (.inr (.inl (m,n,xs,rfl,rfl,b,a,q)))
def Xd{a:Type}{l:List a}{i:Nat}{x:a}(h:l[i]?=some x):l.take (i+1)=l.take i++[x]:=by let(c,b):=Ai.mp h;rw[<-b];show List.take_succ_eq_append_getElem c
inductive T where
 | leaf (l:Ln) | home (r:Bool) (n:Int) (b:List T) | cho (a:Opd) (s:Str) (b:Opd) (y n:List T)
structure Fr where
 h:Option Ln
 y:Option (List T)
 n:List T
def Fr.mk'(f:Fr):T:=match f.h with
 | some (.rnd k)=> .home true k f.n
 | some (.prt k)=> .home false k f.n
 | some (.cond a s b)=>match f.y with
  | none=> .cho a s b f.n []
  | some y=> .cho a s b y f.n
 | _=> .leaf .fin
def nst(fs:List Fr)(l:Ln):List Fr:=match l with
 | .cond a s b=>(some (.cond a s b),none,[])::fs
 | .rnd n=>(some (.rnd n),none,[])::fs
 | .prt n=>(some (.prt n),none,[])::fs
 | .els=>match fs with
  | f::r=>(f.h,some f.n,[])::r
  | []=>[]
 | .don=>match fs with
  | f::g::r=>(g.h,g.y,g.n++[f.mk'])::r
  | r=>r
 | l=>match fs with
  | f::r=>(f.h,f.y,f.n++[.leaf l])::r
  | []=>[]
def fr0:Fr:=(none,none,[])
def nest(a:LG):List T:=match a.foldl nst [fr0] with
 | [f]=>f.n
 | _=>[]
def Fr.is(f:Fr):Tp->Prop
 | .cif=>f.y=none/\∃a s b,f.h=some (.cond a s b)
 | .cel=>f.y.isSome=true/\∃a s b,f.h=some (.cond a s b)
 | .crd=>f.y=none/\∃n,f.h=some (.rnd n)
 | .cpt=>f.y=none/\∃n,f.h=some (.prt n)
def Fss:List Tp->List Fr->Prop
 | [],a=>∃n,a=[(none,none,n)]
 | t::b,a=>∃f r,a=f::r/\f.is t/\Fss b r
def Fss.top{ts:List Tp}{fs:List Fr}(h:Fss ts fs):∃f r,fs=f::r/\∀n,Fss ts ((f.h,f.y,n)::r):=by
 cases ts with
 | nil=>let(n,rfl):=h;show(_,_,rfl,λn=>(n,rfl))
 | cons t ts=>let(f,r,rfl,b,a):=h;show(f,r,rfl,λn=>(_,_,rfl,by cases t<;>show b,a))
def Zi2{ts a:List Tp}(h:stp ts .els=some a):∃r,ts= .cif::r/\a= .cel::r:=by
 match ts,h with
 | .cif::ts,h=>cases h;show(ts,rfl,rfl)
def Zo6{ts a:List Tp}(h:stp ts .don=some a):∃t,ts=t::a:=by
 match ts,h with
 | t::ts,h=>cases h;show(t,rfl)
def Fss.step{fs:List Fr}{ts c:List Tp}{l:Ln}(h:Fss ts fs)(e:stp ts l=some c):Fss c (nst fs l):=by
 cases l with
 | cond a s b=>cases e;show(_,_,rfl,(rfl,a,s,b,rfl),h)
 | rnd n=>cases e;show(_,_,rfl,(rfl,n,rfl),h)
 | prt n=>cases e;show(_,_,rfl,(rfl,n,rfl),h)
 | els=>let(r,rfl,rfl):=Zi2 e;let(f,k,rfl,j,i):=h;show(_,_,rfl,(rfl,j.2),i)
 | don=>let(t,rfl):=Zo6 e;let(f,k,rfl,j,i):=h;let(g,r,rfl,d):=i.top;show d _
 | _=>cases e;let(g,r,rfl,d):=h.top;show d _
def Fss.run{b:LG}:∀{fs:List Fr} {ts a:List Tp},Fss ts fs->run ts b=some a->Fss a (b.foldl nst fs):=by
 induction b with
 | nil=>intro fs ts a h e;cases e;show h
 | cons l b d=>
  intro fs ts a h e;change (stp ts l).bind _=_ at e;cases c:stp ts l with
  | none=>rw[c] at e;cases e
  | some t=>rw[c] at e;show d (h.step c) e
def Zx1{a:LG}(h:run [] a=some []):a.foldl nst [fr0]=[(none,none,nest a)]:=by let(n,b):=Fss.run (fs:=[fr0]) (ts:=[]) ([],rfl) h;ext nest;rw[b]
mutual
noncomputable def fl:T->LG
 | .leaf l=>[l]
 | .home r n b=>(if r then .rnd n else .prt n)::(fls b++[.don])
 | .cho a s b y n=> .cond a s b::(fls y++((match n with | []=>[] | t::c=> .els::(fl t++fls c))++[.don]))
noncomputable def fls:List T->LG
 | []=>[]
 | t::a=>fl t++fls a
end
theorem R7(xs ys:List T):fls (xs++ys)=fls xs++fls ys:=by
 induction xs with
 | nil=>rw[Ho];ext fls;rfl
 | cons x xs a=>rw[Dh];change fl x++fls (xs++ys)=(fl x++fls xs)++fls ys;rw[a,An]
def Zo7:fls []=[]:=rfl
def Qm(t:T)(ts:List T):fls (t::ts)=fl t++fls ts:=rfl
def Y54(l:Ln):fl (.leaf l)=[l]:=rfl
def Jn(r:Bool)(n:Int)(b:List T):fl (.home r n b)=(if r then .rnd n else .prt n)::(fls b++[.don]):=rfl
def Cf(a:Opd)(s:Str)(b:Opd)(y:List T):fl (.cho a s b y [])= .cond a s b::(fls y++[.don]):=rfl
def B9(a:Opd)(s:Str)(b:Opd)(y:List T)(t:T)(ts:List T):fl (.cho a s b y (t::ts))= .cond a s b::(fls y++(.els::fls (t::ts)++[.don])):=rfl
def notE:Ln->Bool
 | .els=>false
 | _=>true
def noE(a:LG):LG:=a.filter notE
mutual
def RT(C:Nat->Prop)(M:Z3):T->D->Prop
 | .leaf l,d=>d=l.d/\l.pl=true/\l.beg=false
 | .home r n b,d=>∃c g,d= .tup [.str (if r then "round" else "part"),.int n,.ref c]/\C c/\Z2 M c=some g/\RTs C M b g
 | .cho a s b y n,d=>∃f e i h,d= .tup [.str "choice",a.d,.str s,b.d,.ref f,.ref e]/\C f/\C e/\Z2 M f=some i/\RTs C M y i/\Z2 M e=some h/\RTs C M n h
def RTs(C:Nat->Prop)(M:Z3):List T->LD->Prop
 | [],a=>a=[]
 | t::b,a=>∃d r,a=d::r/\RT C M t d/\RTs C M b r
end
theorem Z6{a:Nat}(h:M'[a]?=M[a]?):Z2 M' a=Z2 M a:=by ext Z2;rw[h]
mutual
theorem RT.keep(f:∀c,C c->C' c)(k:∀c,C c->M'[c]?=M[c]?):∀{t:T} {d:D},RT C M t d->RT C' M' t d
 | .leaf l,d,h=>h
 | .home r n b,d,zy3=>by let(c,v,e,g,i,j):=zy3;show(c,v,e,f c g,by rw[Z6 (k c g)];show i,RTs.keep f k j)
 | .cho a s b y n,d,zy4=>by let(o,m,x,w,e,g,i,j,u,q,p):=zy4;show(o,m,x,w,e,f o g,f m i,by rw[Z6 (k o g)];show j,RTs.keep f k u,by rw[Z6 (k m i)];show q,RTs.keep f k p)
theorem RTs.keep(b:∀c,C c->C' c)(k:∀c,C c->M'[c]?=M[c]?):∀{ts:List T} {a:LD},RTs C M ts a->RTs C' M' ts a
 | [],a,h=>h
 | t::ts,a,zy5=>by let(d,r,e,g,f):=zy5;show(d,r,e,RT.keep b k g,RTs.keep b k f)
end
theorem RTs.len:∀{ts:List T} {a:LD},RTs C M ts a->(Lg a)=Lg ts
 | [],a,h=>by cases h;rfl
 | t::ts,a,zy6=>by let(d,r,e,c,b):=zy6;rw[e,Af,Af,RTs.len b]
def RTs.app:∀{ts us:List T} {a es:LD},RTs C M ts a->RTs C M us es->RTs C M (ts++us) (a++es)
 | [],us,a,es,h,g=>by cases h;show g
 | t::ts,us,a,es,zy7,g=>by let(d,r,e,c,b):=zy7;rw[e];show(d,r++es,rfl,c,RTs.app b g)
def RTs.one{t:T}{d:D}(h:RT C M t d):RTs C M [t] [d]:=(d,[],rfl,h,rfl)
def Yc{M:Z3}{a b:Nat}{c:Cell}(h:a≠b):(M.set a c)[b]?=M[b]?:=Dq h
def Y0{M N:Z3}{b:Nat}(h:b<Lg M):(M++N)[b]?=M[b]?:=Dx h
structure Fm(C:Nat->Prop)(M:Z3)(m:Nat)(ts:List T)(r:Nat):Prop where
 e:∃ds,Z2 M r=some ds/\RTs C M ts ds
 c:∀c,C c->m<=c/\c<Lg M
 n:¬C r/\m<=r
def Ln.g:Ln->D
 | .cond a s b=> .tup [.str "choice",a.d,.str s,b.d]
 | .els=> .gtup [.str "else"]
 | .don=> .gtup [.str "done"]
 | l=>l.d
def hdL:T->Ln
 | .leaf l=>l
 | .home r n _=>if r then .rnd n else .prt n
 | .cho a s b _ _=> .cond a s b
def sub':T->List T
 | .leaf _=>[]
 | .home _ _ b=>b++[.leaf .don]
 | .cho _ _ _ y []=>y++[.leaf .don]
 | .cho _ _ _ y (t::a)=>(y++[.leaf .els])++(t::a)++[.leaf .don]
def Zu5(t:T):fl t=hdL t::fls (sub' t):=by
 cases t with
 | leaf l=>rfl
 | home r n b=>rw[Jn];change _=_::fls (b++[.leaf .don]);rw[R7];rfl
 | cho a s b y n=>
  cases n with
  | nil=>rw[Cf];change _=_::fls (y++[.leaf .don]);rw[R7];rfl
  | cons t c=>rw[B9];change _=_::fls ((y++[.leaf .els])++(t::c)++[.leaf .don]);rw[R7,R7,R7];simp[Qm,Zo7,Y54,hdL]
def Vh(ts:List T):Lg ts<=(fls ts).length:=by
 induction ts with
 | nil=>show nj _
 | cons t ts a=>rw[Qm,Zu5,Ac,Af,Af];lia
def RG(C:Nat->Prop)(M:Z3)(t:T)(d:D):Prop:=RT C M t d\/(t= .leaf .don/\d= .gtup [.str "done"])\/(t= .leaf .els/\d= .gtup [.str "else"])
def RGs(C:Nat->Prop)(M:Z3):List T->LD->Prop
 | [],a=>a=[]
 | t::b,a=>∃d r,a=d::r/\RG C M t d/\RGs C M b r
def RG.keep(k:∀c,C c->M'[c]?=M[c]?){t:T}{d:D}(h:RG C M t d):RG C M' t d:=h.imp (λz=>z.keep (λ_ h=>h) k) λz=>z
def RGs.keep(k:∀c,C c->M'[c]?=M[c]?):∀{ts:List T} {a:LD},RGs C M ts a->RGs C M' ts a
 | [],a,h=>h
 | t::ts,a,zy8=>by let(d,r,e,f,b):=zy8;show(d,r,e,f.keep k,RGs.keep k b)
def RTs.rg:∀{ts:List T} {a:LD},RTs C M ts a->RGs C M ts a
 | [],a,h=>h
 | t::ts,a,zy9=>by let(d,r,e,c,b):=zy9;show(d,r,e,.inl c,RTs.rg b)
def RGs.len:∀{ts:List T} {a:LD},RGs C M ts a->(Lg a)=Lg ts
 | [],a,h=>by cases h;rfl
 | t::ts,a,zy10=>by let(d,r,e,c,b):=zy10;rw[e,Af,Af,RGs.len b]
def RGs.app:∀{ts us:List T} {a es:LD},RGs C M ts a->RGs C M us es->RGs C M (ts++us) (a++es)
 | [],us,a,es,h,g=>by cases h;show g
 | t::ts,us,a,es,zy11,g=>by let(d,r,e,c,b):=zy11;rw[e];show(d,r++es,rfl,c,RGs.app b g)
def Eh:RGs C M [.leaf .don] [.gtup [.str "done"]]:=(_,_,rfl,.inr (.inl (rfl,rfl)),rfl)
def Yc2:RGs C M [.leaf .els] [.gtup [.str "else"]]:=(_,_,rfl,.inr (.inr (rfl,rfl)),rfl)
def Yi:DSp:=λa M Q _=>∃C t d,a=[d]/\RG C M t d/\Q (hdL t).g M
def Wa:DSp:=λe M Q _=>∃C t d,e=[d]/\RG C M t d/\(∀c,C c->c<Lg M)/\(fl t).length<=1000/\∀b r a,Kp M b->RGs C b (sub' t) a->Z2 b r=some a->(Lg M)<=r->Q (.ref r) b
def Zn:DSp:=λf M Q _=>∃C b r a,f=[.ref r]/\Z2 M r=some a/\RTs C M b a/\(∀c,C c->c<Lg M)/\(fls b).length<=1000/\∀e d,Kp M e->Z2 e d=some ((fls b).map Ln.g)->(Lg M)<=d->Q (.ref d) e
def Ks.cl{M M':Z3}{C:Nat->Prop}(k:Kp M M')(h:∀c,C c->c<Lg M):∀c,C c->M'[c]?=M[c]?:=λc a=>k.at' c (λz=>z) (h c a)
section
variable{K:Aa}{Γ:List DSp}{G:LD}
abbrev rp:LD:=[.str "round",.str "part"]
def Yb7{h:Str}{d:D}(hd:d= .tup (.str h::xs)\/d= .gtup (.str h::xs))(a:inD (.str h) rp=false)(q:Q d M):tss (K,Γ,G) noX W1 {nx:=λ_ M=>Q .non M,rt:=Q} [some d] M:=by
 delta W1;rcases hd with rfl|rfl
 .rfl';show(Z1 'd',rfl,rfl,?_);dsimp only;rw[a,nb Bf9];delta Tl;rfl';show q
 .rfl';show(Z1 'd',rfl,rfl,?_);dsimp only;rw[a,nb Bf9];delta Tl;rfl';show q
def Y17{h:Str}{n:Int}(a:inD (.str h) rp=true)(q:Q (.tup [.str h,.int n]) M):tss (K,Γ,G) noX W1 {nx:=λ_ M=>Q .non M,rt:=Q} [some (.tup [.str h,.int n,.ref c])] M:=by delta W1;rfl';show(Z1 'd',rfl,rfl,?_);dsimp only;rw[a,nc rfl];show q
def Zf2:Rd K Γ G Yi Fi Fc:=by
 rintro e M Q Z ⟨C,t,d,rfl,h,q⟩;delta Fi Fc;rcases h with h|⟨rfl,rfl⟩|⟨rfl,rfl⟩
 .cases t with
  | leaf l=>
   let(rfl,g,f):=h;cases l with
   | cond=>cases f
   | rnd=>cases f
   | prt=>cases f
   | els=>cases g
   | don=>cases g
   | _=>erw[Ln.d];rfl';show Yb7 (.inl rfl) 'k' q
  | home r n b=>
   let(c,e,rfl,_):=h;cases r with
   | true=>erw[if_true];rfl';show Y17 'k' q
   | false=>erw[Bool.false_eq_true,if_false];rfl';show Y17 'k' q
  | cho a s b y n=>let(m,k,j,i,rfl,_):=h;rfl';show('d',q)
 .rfl';show Yb7 (.inr rfl) 'k' q
 .rfl';show Yb7 (.inr rfl) 'k' q
def Yh1{h:Str}{d:D}(hd:d= .tup (.str h::xs)\/d= .gtup (.str h::xs))(a:inD (.str h) rp=false)(b:¬h="choice")(q:Q (.ref (Lg M)) (M++[.lst []])):tss (K,Γ,G) noX Ym {nx:=λ_ M=>Q .non M,rt:=Q} (start0 Yl [d]) M:=by
 delta Ym Yl;rcases hd with rfl|rfl
 .rfl';show(Z1 'd',rfl,rfl,?_);dsimp only;rw[a,nb Bf9];delta X1;rfl';rw[nc b];show(Z1 'd',q)
 .rfl';show(Z1 'd',rfl,rfl,?_);dsimp only;rw[a,nb Bf9];delta X1;rfl';rw[nc b];show(Z1 'd',q)
def Zf3(e:G[1]?=some (.gtup [.str "done"])){h:Str}{n:Int}{a:LD}(b:inD (.str h) rp=true)(d:Z2 M c=some a)(f:Lg a<=1000)(q:Q (.ref (M++[Cell.lst [D.gtup [.str "done"]]]).length) (M++[Cell.lst [D.gtup [.str "done"]]]++[.lst (a++[.gtup [.str "done"]])])):tss (K,Γ,G) noX Ym {nx:=λ_ M=>Q .non M,rt:=Q} (start0 Yl [.tup [.str h,.int n,.ref c]]) M:=by delta Ym Yl;rfl';show(Z1 'd',rfl,rfl,?_);dsimp only;rw[b,nc rfl];erw[e];rfl';show(Z1 'd',_,_,Z4 d,Z5 _ _ [],Z1 (by rw[Dg];lia),q)
def J0(R:G[0]?=some (.gtup [.str "else"]))(m:G[1]?=some (.gtup [.str "done"])):Rd K Γ G Wa Ym Yl:=by
 rintro f M Q Z ⟨C,t,d,rfl,h,j,i,q⟩;have T:∀l,sub' (.leaf l)=[]:=λ_=>rfl;have z:sub' t=[]->Q (.ref (Lg M)) (M++[.lst []]):=λe=>q _ _ [] (Ks.new _ _) (by rw[e];rfl) (Z5 _ _ _) (na _);rcases h with h|⟨rfl,rfl⟩|⟨rfl,rfl⟩
 .cases t with
  | leaf l=>
   let(rfl,x,k):=h;cases l with
   | cond=>cases k
   | rnd=>cases k
   | prt=>cases k
   | els=>cases x
   | don=>cases x
   | _=>show Yh1 (.inl rfl) 'k' 'k' (z rfl)
  | home r n b=>
   let(c,f,rfl,V,E,B):=h;have F:Lg f<=1000:=by have:=Vh b;rw[Jn,Af,Ac] at i;rw[B.len];lia
   have g:=q (M++[Cell.lst [D.gtup [.str "done"]]]++[.lst (f++[.gtup [.str "done"]])]) _ _ ((Ks.new _ _).app _) ((B.rg.keep (((Ks.new M _).app _).cl j)).app Eh) (Z5 _ _ _) (by rw[Ac];lia);cases r with
   | true=>show Zf3 m 'k' E F g
   | false=>show Zf3 m 'k' E F g
  | cho a s b y n=>
   let(L,J,A,o,rfl,x,k,I,w,H,v):=h;delta Ym Yl;rfl';show(Z1 'd',rfl,rfl,?_);dsimp only;rw[show inD (.str "choice") [.str "round",.str "part"]=false by decide+kernel,nb Bf9];delta X1;rfl';delta Vg;rfl';rw[nb 's',show cutD [D.str "choice",a.d,D.str s,b.d,D.ref L,D.ref J] (some 4) none=[.ref L,.ref J] from rfl];show('d',?_);rfl';have U:=w.len;have O:=v.len;have W:=Vh y;have P:=Vh n;have u:Kp M (M++[.lst []]):=Ks.new _ _;show(Z1 'd',Ti (Zc (Z0 H)) (Zh _ _ []) ?_);cases n with
   | nil=>cases v;erw[Ly,m];rfl';rw[Cf,Af,Ac] at i;show(Z1 'd',_,_,Z4 (Z4 I),Z5 _ _ [],Z1 (by rw[Dg];lia),?_);show q _ _ _ ((u.app _).app _) ((w.rg.keep (((u.app _).app _).cl j)).app Eh) (Z5 _ _ _) ?_;erw[Ac];lia
   | cons t S=>
    rw[B9] at i;erw[Af,Ac] at i O P;have N:o.isEmpty=false:=by cases o<;>simp_all
    rw[N,nb Bf9];delta Vn;rfl';erw[R,m];show(Z1 'd',_,_,Z4 (Z4 I),Z5 _ _ [],Z1 (by rw[Dg];lia),?_);rfl';show(_,_,Z5 _ _ [],Z4 (Z4 (Z4 H)),Z1 (by erw[Ac,Dg];lia),?_);show(Z1 'd',_,_,Z4 (Z5 _ _ []),Z5 _ _ [],Z1 (by erw[Ac,Dg];lia),?_);have p:=(((((u.app [Cell.lst [D.gtup [.str "else"]]]).app [Cell.lst (A++[D.gtup [.str "else"]])]).app [Cell.lst (A++[D.gtup [.str "else"]]++o)]).app [Cell.lst [D.gtup [.str "done"]]]).app [Cell.lst (A++[D.gtup [.str "else"]]++o++[D.gtup [.str "done"]])]);show q _ _ _ p ((((w.rg.keep (p.cl j)).app Yc2).app (v.rg.keep (p.cl j))).app Eh) (Z5 _ _ _) ?_;erw[Ac];lia
 .show Yh1 (.inr rfl) 'k' 'k' (z rfl)
 .show Yh1 (.inr rfl) 'k' 'k' (z rfl)
def Z88(gl:Γ[0]?=some Yi)(gt:Γ[1]?=some Wa):Rd K Γ G Zn Ng N6:=by
 rintro J M Q Z ⟨C,L,r,I,rfl,hr,rt,o,hz,q⟩;delta Ng N6;generalize hw:S.while_ _ _=w;rfl';show(Z1 'd',_,Zc (Z0 hr),?_);rw[An];subst hw;show U.Bh (c:=(K,Γ,G)) (X:=noX) (λz b=>∃(d:Option D) (i:LG) (f:List T) (e:LD),z=[↑r,↑(Lg M),some (.ref (Lg M+1)),d]/\Kp M b/\Z2 b (Lg M)=some (i.map Ln.g)/\Z2 b (Lg M+1)=some e.reverse/\RGs C b f e/\i++fls f=fls L) (λz b=>1000 - ((Z2 b (Lg M)).getD []).length)
  ?_ ?_
 .exact(none,[],L,I,by simp,Ks.new _ _,Z5 _ _ _,Zl _ _ 1,rt.rg.keep ((Ks.new M _).cl o),rfl)
 rintro z b ⟨d,i,f,e,rfl,k,e1,Y,O,x⟩;rfl';show(Z1 'd',Ti (Zc (Z0 Y)) (Zh _ _ []) ?_);have R:Kp M (b++[.lst []]):=k.app _;have u:=Z4 (N:=[.lst []]) e1;have l:=Z4 (N:=[.lst []]) Y;have kc:∀c,C c->(b++[Cell.lst []])[c]?=b[c]?:=λc h=>Y0 (ng (o c h) k.len);have A:=O.keep kc;cases f with
 | nil=>cases O;rw[Zo7,Au] at x;subst x;erw[List.reverse_nil,Ly];rfl';delta Q6;rfl';show q _ _ R u (na _)
 | cons t f=>
  let(d,e,rfl,W,V):=A;have en:((d::e).reverse).isEmpty=false:=by simp
  rw[en];delta Q1;rfl';have fz:Lg i+((fl t).length+(fls f).length)<=1000:=by rw[<-Ac,<-Qm,<-Ac,x];show hz
  have ft:1<=(fl t).length:=by rw[Zu5,Af];lia
  have y0:Lg e<=1000:=by rw[V.len];have:=Vh f;lia
  show(Ze (Z0 l),_,d,l,by simp,?_);rw[show(d::e).reverse.dropLast=e.reverse by simp];have B:=Z9 (Z0 l);have H:Z2 (Ha (b++[Cell.lst []]) (Lg M+1) (.lst e.reverse)) (Lg M)=some (i.map Ln.g):=by rw[Z8 'o'];show u
  have p:∀c,C c->(Ha (b++[Cell.lst []]) (Lg M+1) (.lst e.reverse))[c]?=(b++[Cell.lst []])[c]?:=λc h=>Yc (a:=Lg M+1) (by have:=o c h;lia);show(Ze (Z0 H),?_);erw[gl];show(C,t,d,rfl,W.keep p,?_);rfl';show(_,H,Za (by rw[Al];lia),?_);have m:∀c,C c->((Ha (b++[Cell.lst []]) (Lg M+1) (.lst e.reverse)).set (Lg M) (.lst (i.map Ln.g++[(hdL t).g])))[c]?=(b++[Cell.lst []])[c]?:=λc h=>by rw[Yc (a:=Lg M) (by have:=o c h;lia)];show p c h
  have v:Kp M ((Ha (b++[Cell.lst []]) (Lg M+1) (.lst e.reverse)).set (Lg M) (.lst (i.map Ln.g++[(hdL t).g]))):=(R.set (.inr 'o')).set (.inr (na _));have F:Z2 ((Ha (b++[Cell.lst []]) (Lg M+1) (.lst e.reverse)).set (Lg M) (.lst (i.map Ln.g++[(hdL t).g]))) (Lg M)=some ((i++[hdL t]).map Ln.g):=by rw[Zd (Z9 (Z0 H)),Dc];rfl
  have E:Z2 ((Ha (b++[Cell.lst []]) (Lg M+1) (.lst e.reverse)).set (Lg M) (.lst (i.map Ln.g++[(hdL t).g]))) (Lg M+1)=some e.reverse:=by rw[Z8 'o',Zd B]
  generalize (Ha (b++[Cell.lst []]) (Lg M+1) (.lst e.reverse)).set (Lg M) (.lst (i.map Ln.g++[(hdL t).g]))=M4 at m v F E |-;show(Ze (Z0 E),?_);erw[gt];have j:∀c,C c->c<Lg M4:=λc h=>ng (o c h) v.len;show(C,t,d,rfl,W.keep m,j,'o',λM5 r5 y n g5 e5 l5=>?_);have z0:=v.len;have s:=n.pW E;have x0:Lg y<=1000:=by rw[g5.len];have:=Vh (sub' t);rw[Zu5,Af] at fz;lia
  show(_,Z0 e5,_,_,Z4 s,Z5 _ _ _,Z1 (by rw[Dp,Dp];lia),(_,i++[hdL t],sub' t++f,y++e,rfl,((v.trans n).app _).set (.inr 'o'),?_,?_,?_,?_),?_)
  .rw[Z8 'o'];show Z4 (n.pW F)
  .rw[Zd (Z9 (Z0 (Z4 s))),List.reverse_append]
  .have P:∀c,C c->(Ha (M5++[Cell.lst y.reverse]) (Lg M+1) (.lst (e.reverse++y.reverse)))[c]?=M5[c]?:=λc h=>by rw[Yc (a:=Lg M+1) (by have:=o c h;lia)];show Y0 (ng (j c h) n.len)
   show(g5.keep P).app ((V.keep m).keep (λc h=>(P c h).trans (n.cl j c h)))
  .rw[<-x,Qm,Zu5,R7];simp
  .rw[Z8 'o',Z4 (n.pW F),e1];simp;lia
end
def Z38{f:Type}[DecidableEq f](m:List (f×D))(k j:f)(v:D):valD (putD m k v) j=if k=j then some v else valD m j:=by
 ext putD;split
 .rename_i h;ext valD;induction m with
  | nil=>simp at h
  | cons p r i=>
   rw[Aj,Hq,Hq];by_cases d:p.1=k
   .rw[nc d];symm;by_cases b:k=j
    .subst b;simp[d]
    .have:decide (p.1=j)=false:=by rw[decide_eq_false_iff_not,d];show b
     erw[this];rw[nb b];symm;by_cases e:(r.any λa=>decide (a.1=k))=true
     .have:=i e;rwa[nb b] at this
     .have l:r.map (λa=>if a.1=k then#v[a.1,v] else a)=r:=by
       rw[List.map_congr_left (g:=id)]
       .simp
       .intro a c;rw[nb];symm
        .rfl
        .intro z;show e (Hz.mpr (a,c,↥z))
      rw[l]
   .rw[nb d];symm;have e:(r.any λa=>decide (a.1=k))=true:=by simpa[d] using h
    by_cases b:p.1=j
    .have:¬k=j:=λz=>d (b.trans z.symm);simp[b,this]
    .simp only[b,decide_false];show i e
 .rename_i h;ext valD;rw[List.find?_append];by_cases b:k=j
  .subst b;have:m.find? (λa=>decide (a.1=k))=none:=by rw[List.find?_eq_none];intro a c z;show h (Hz.mpr (a,c,z))
   rw[this];simp
  .rw[nb b];symm;simp[b]
def Opd.flat(o:Opd):Yd o.d=true:=by cases o<;>rfl
def Bx(h k:Str)(xs:LD)(a:¬h=k):eqFs (.str h::xs) [.str k]=false:=by
 ext eqFs;rw[show min (D.str h::xs).length [D.str k].length=1 by simp];show((eqF (.str h) (.str k)&&true)&&_)=false;have:eqF (.str h) (.str k)=false:=by show(h==k)=false;simpa using a
 rw[this];rfl
def Yq8{x:D}(c:x= .tup xs\/x= .gtup xs)(b:xs.all Yd=true)(a:ys.all Yd=true)(q:B (eqFs xs ys)):eqD M x (.gtup ys) B:=by
 rcases c with rfl|rfl
 .show .inr (.inr (.inr (xs,ys,.inl rfl,.inr rfl,b,a,q)))
 .show .inr (.inr (.inr (xs,ys,.inr rfl,.inr rfl,b,a,q)))
def Zy0{i:Nat}{d:D}(h:(F7 xs)[i]?=some d):∃x,xs[i]?=some x/\d= .tup [.int (i:Nat),x]:=by ext h F7;rw[List.getElem?_mapIdx,Lh] at h;let(x,a,rfl):=h;show(x,a,rfl)
def Zs4(xs:LD):(F7 xs).length=Lg xs:=by ext F7;simp
abbrev Ln.h:Ln->D:=Ln.g
def hw:Ln->Str
 | .cond _ _ _=>"choice" | .sum _ _ _ _=>"sum" | .rnd _=>"round" | .prt _=>"part" | .lve _=>"leave" | .agn _=>"again" | .els=>"else" | .don=>"done" | .fin=>"end"
def tlD:Ln->LD
 | .cond a s b=>[a.d,.str s,b.d]
 | .sum x a s b=>[.str x,a.d,.str s,b.d]
 | .rnd n=>[.int n]
 | .prt n=>[.int n]
 | .lve n=>[.int n]
 | .agn n=>[.int n]
 | _=>[]
def Ln.h_eq{l:Ln}(h:l.pl=true):l.h= .tup (.str (hw l)::tlD l):=by cases l<;>first | rfl | cases h
def Ln.h_or(l:Ln):l.h= .tup (.str (hw l)::tlD l)\/l.h= .gtup (.str (hw l)::tlD l):=by cases l<;>first | show .inl rfl | show .inr rfl
def G3(l:Ln):(tlD l).all Yd=true:=by cases l<;>first | rfl | erw[tlD,Ic,Opd.flat,List.all_nil]<;>rfl
def isDn:Ln->Bool
 | .don=>true
 | _=>false
def Yp0{l:Ln}:(notE l=true->¬hw l="else")/\(isDn l=false->¬hw l="done"):=by cases l<;>show(λz=>?_,λz=>?_)<;>first | (erw[hw];decide+kernel) | cases z
def Qu{l:Ln}(q:B (!notE l)):eqD M l.h (.gtup [.str "else"]) B:=by
 show Yq8 l.h_or (by show(true&&_)=true;rw[G3];rfl) rfl ?_;cases l with
 | els=>show q
 | _=>rw[Bx _ _ _ (Yp0.1 rfl)];show q
def Jd{l:Ln}(q:B (isDn l)):eqD M l.h (.gtup [.str "done"]) B:=by
 show Yq8 l.h_or (by show(true&&_)=true;rw[G3];rfl) rfl ?_;cases l with
 | don=>show q
 | _=>rw[Bx _ _ _ (Yp0.2 rfl)];show q
def Ze6{a:LG}{st x:List Tp}(h:run st a=some x)(i:Nat):∃t,run st (a.take i)=some t:=by
 rw[<-List.take_append_drop i a,R0] at h;cases e:run st (a.take i) with
 | none=>rw[e] at h;cases h
 | some t=>show(t,rfl)
def Wn{a:Type}(xs:List a)(x:a):atI (xs++[x]) (-1)=some x:=by unfold atI ixN;rw[nb 'd',nc (by rw[Ac,Dg];lia)];show(xs++[x])[_]?=some x;rw[show(-1+((xs++[x]).length:Int)).toNat=Lg xs by rw[Ac,Dg];lia];simp
def Ln.nst_beg{l:Ln}(h:l.beg=true)(fs:List Fr):nst fs l=(some l,none,[])::fs:=by cases l<;>first | rfl | cases h
structure CG where
 b:Nat
 h:Option Ln
 y:Option (List T)
 t:List T
def CG.abs(f:CG):Fr:=(f.h,f.y,f.t)
def isC:Option Ln->Bool
 | some (.cond _ _ _)=>true
 | _=>false
def CG.cur(f:CG):Nat:=if f.y.isSome then f.b+1 else f.b
def CG.q(f:CG):Nat:=if isC f.h then f.b+2 else f.b+1
def CG.qL(f:CG):LD:=if f.y.isSome then [.ref (f.b+1)] else if isC f.h then [.ref f.b,.ref (f.b+1)] else [.ref f.b]
def CG.tp(f:CG):D:=match f.h with
 | some (.rnd n)=> .tup [.str "round",.int n,.ref f.b]
 | some (.prt n)=> .tup [.str "part",.int n,.ref f.b]
 | some (.cond a s b)=> .tup [.str "choice",a.d,.str s,b.d,.ref f.b,.ref (f.b+1)]
 | _=> .non
structure CGok(C:Nat->Prop)(M:Z3)(f:CG)(nx:LD):Prop where
 q:Z2 M f.q=some f.qL
 c:∃ds,Z2 M f.cur=some (ds++nx)/\RTs C M f.t ds
 z:isC f.h=true->f.y=none->Z2 M (f.b+1)=some []
 y:∀ys,f.y=some ys->isC f.h=true/\∃ds,Z2 M f.b=some ds/\RTs C M ys ds
def CG.own(f:CG)(x:Nat):Prop:=x=f.b\/(x=f.b+1)\/x=f.q
def CGok.keep{f:CG}(h:CGok C M f nx)(j:∀c,C c->C' c)(k:∀c,C c->M'[c]?=M[c]?)(d:∀x,f.own x->M'[x]?=M[x]?):CGok C' M' f nx:=by
 let(g,n,m):=h.c;have i:=d f.b (.inl rfl);have a:=d (f.b+1) (.inr (.inl rfl));show(?_,(g,?_,m.keep j k),λp o=>?_,λl e=>?_)
 .rw[Z6 (d f.q (.inr (.inr rfl)))];show h.q
 .rw[Z6 (M:=M)]
  .show n
  .unfold CG.cur;split
   .show a
   .show i
 .rw[Z6 a];show h.z p o
 .let(r,g,g1,g2):=h.y l e;show(r,g,by rw[Z6 i];show g1,g2.keep j k)
def Ch(C:Nat->Prop)(M:Z3):LD->List CG->Prop
 | _,[]=>True
 | a,f::r=>CGok C M f a/\Ch C M [f.tp] r
def Ch.keep(b:∀c,C c->C' c)(k:∀c,C c->M'[c]?=M[c]?):∀{fs:List CG} {nx:LD},(∀f∈fs,∀x,f.own x->M'[x]?=M[x]?)->Ch C M nx fs->Ch C' M' nx fs
 | [],nx,a,h=>trivial
 | f::r,nx,a,zy12=>by let(i,e):=zy12;show(i.keep b k (a f Ad),Ch.keep b k (λg d=>a g (Ae _ d)) e)
structure GI(M0:Z3)(p:Nat)(fs:List CG)(C:Nat->Prop)(M:Z3):Prop where
 k:Kp M0 M
 o:Z2 M p=some (fs.reverse.map λf=> .ref f.q)
 c:Ch C M [] fs
 d:fs.Pairwise λf g=>g.b+3<=f.b
 l:∀f∈fs,f.b+3<=Lg M/\(Lg M0)<=f.b
 pq:∀f∈fs,p<f.b\/f.h=none/\p=f.b+2
 cl:∀c,C c->(Lg M0)<=c/\c<Lg M/\c≠p/\∀f∈fs,c<f.b\/f.b+3<=c
 pl:Lg M0<=p
def CG.own_lt{f:CG}{x:Nat}(h:f.own x):f.b<=x/\x<f.b+3:=by
 rcases h with h|h|h
 .lia
 .lia
 .unfold CG.q at h;split at h<;>lia
def Zy2{f:CG}{p x:Nat}(a:p<f.b\/f.h=none/\p=f.b+2)(h:f.own x):x≠p:=by
 have:=CG.own_lt h;rcases a with a|⟨h1,h2⟩
 .lia
 .rcases h with h|h|h
  .lia
  .lia
  .unfold CG.q at h;rw[h1] at h;simp[isC] at h;lia
section
variable{M0 M:Z3}{p:Nat}{f g:CG}{r:List CG}{C:Nat->Prop}
def GI.top(I:GI M0 p (f::r) C M):CGok C M f []/\(∀g∈r,∀x,g.own x->x<f.b)/\(∀c,C c->∀x,f.own x->c≠x)/\(∀x,f.own x->x≠p/\x<Lg M/\(Lg M0)<=x)/\f.cur<Lg M:=by
 have h:=Dv.mp I.d;show(I.c.1,λg e x a=>?_,λc i x a=>?_,λx a=>?_,?_)
 .have:=h.1 g e;have:=CG.own_lt a;lia
 .have:=(I.cl c i).2.2.2 f Ad;have:=CG.own_lt a;lia
 .have j:=I.l f Ad;have k:=CG.own_lt a;show(Zy2 (I.pq f Ad) a,'o','o')
 .have j:=I.l f Ad;ext CG.cur;split<;>lia
def Wh(f:CG):f.own f.cur:=by unfold CG.own CG.cur;split<;>simp
def CG.cur_q(f:CG)(h:f.y.isSome=true->isC f.h=true):f.cur≠f.q:=by
 unfold CG.cur CG.q;split
 .rename_i a;rw[nc (h a)];lia
 .split<;>lia
def GI.put(I:GI M0 p (f::r) C M){t:T}{d:D}(e:Z2 M f.cur=some j)(H:RTs C M f.t j)(hd:RT C M t d):
  GI M0 p ({f with t:=f.t++[t]}::r) C ((M++N).set f.cur (.lst (j++[d]))):=by
 let(A,B,L,m,S):=I.top;have i:∀x,x≠f.cur->x<Lg M->((M++N).set f.cur (.lst (j++[d])))[x]?=M[x]?:=λx v K=>by rw[Yc (Av v),Y0 K]
 have u:∀c,C c->((M++N).set f.cur (.lst (j++[d])))[c]?=M[c]?:=λc w=>i c (L c w _ (Wh f)) (I.cl c w).2.1;have J:f.y.isSome=true->isC f.h=true:=λz=>by
  cases n:f.y with
  | none=>rw[n] at z;cases z
  | some s=>show(A.y s n).1
 show((I.k.app N).set (.inr (m _ (Wh f)).2.2),?_,((?_,(j++[d],?_,?_),λO F=>?_,λs n=>?_),?_),?_,λg a=>?_,λg a=>?_,λc w=>?_,I.pl)
 .rw[Z6 (i p (Av (m _ (Wh f)).1) (Z9 (Z0 I.o)))];rw[I.o];simp[CG.q]
 .change Z2 _ f.q=some f.qL;rw[Z6 (i f.q (Av (f.cur_q J)) (m _ (.inr (.inr rfl))).2.1)];show A.q
 .rw[Au];show Zd (by rw[Ac];lia)
 .exact(H.keep (λ_ h=>h) u).app (.one (hd.keep (λ_ h=>h) u))
 .change Z2 _ (f.b+1)=some [];rw[Z6 (i (f.b+1) (by ext CG.cur;rw[show f.y=none from F];simp) (m _ (.inr (.inl rfl))).2.1)];show A.z O F
 .let(P,E,g1,g2):=A.y s n;show(P,E,?_,g2.keep (λ_ h=>h) u);change Z2 _ f.b=some E;rw[Z6 (i f.b (by ext CG.cur;rw[show f.y=some s from n];simp) (m _ (.inl rfl)).2.1)];show g1
 .show Ch.keep (λ_ h=>h) u (λg a x v=>i x (by have:=B g a x v;have:=(CG.own_lt (Wh f)).1;lia) (by have:=B g a x v;have:=(CG.own_lt (Wh f)).1;lia)) I.c.2
 .show Dv.mpr ((Dv.mp I.d).1,(Dv.mp I.d).2)
 .rw[Dm,Ac];rcases Ab.mp a with rfl|a
  .have:=I.l f Ad;show(by change f.b+3<=_;lia,this.2)
  .have:=I.l g (Ae _ a);lia
 .rcases Ab.mp a with rfl|a
  .show I.pq f Ad
  .show I.pq g (Ae _ a)
 .let(R,U,Q,G):=I.cl c w;show(R,by rw[Dm,Ac];lia,Q,λg a=>?_);rcases Ab.mp a with rfl|a
  .show G f Ad
  .show G g (Ae _ a)
def GI.yC(I:GI M0 p (f::r) C M):f.y.isSome=true->isC f.h=true:=λz=>by
 cases a:f.y with
 | none=>rw[a] at z;cases z
 | some b=>show(I.c.1.y b a).1
def GI.open(I:GI M0 p (f::r) C M){l:Ln}(N:RTs C M f.t B)(w:g=(Lg M,some l,none,[]))(i:∀x,x<Lg M->x≠f.cur->x≠p->M'[x]?=M[x]?)
  (X:Z2 M' f.cur=some (B++[g.tp])) (W:Z2 M' p=some ((g::f::r).reverse.map λf=> .ref f.q)) (V:Z2 M' g.q=some g.qL) (U:Z2 M' g.b=some []) (T:isC g.h=true->Z2 M' (g.b+1)=some []) (hm:Lg M+3<=Lg M'):GI M0 p (g::f::r) C M':=by
 let(A,P,O,j,h5):=I.top;have v:∀c,C c->M'[c]?=M[c]?:=λc s=>i c (I.cl c s).2.1 (O c s _ (Wh f)) (I.cl c s).2.2.1;have R:g.b=Lg M:=by rw[w]
 have H:g.y=none:=by rw[w]
 have Q:g.t=[]:=by rw[w]
 have hp:p<Lg M:=Z9 (Z0 I.o);show((λa n G=>?_,nh I.k.len 'o'),W,((V,([],?_,?_),λz _=>T z,λF u=>?_),(?_,(B,X,N.keep (λ_ h=>h) v),λK E=>?_,λF u=>?_),?_),?_,λx e=>?_,λx e=>?_,λc s=>?_,I.pl)
 .rw[i a (ng G I.k.len) (by have:=(j _ (Wh f)).2.2;lia) (by have:=I.pl;lia)];show I.k.at' a n G
 .unfold CG.cur;rw[H];show U
 .rw[Q];rfl
 .rw[H] at u;cases u
 .rw[Z6 (i f.q (j _ (.inr (.inr rfl))).2.1 (Av (f.cur_q I.yC)) (j _ (.inr (.inr rfl))).1)];show A.q
 .rw[Z6 (i (f.b+1) (j _ (.inr (.inl rfl))).2.1 (by ext CG.cur;rw[E];simp) (j _ (.inr (.inl rfl))).1)];show A.z K E
 .let(L,S,g1,g2):=A.y F u;show(L,S,?_,g2.keep (λ_ h=>h) v);rw[Z6 (i f.b (j _ (.inl rfl)).2.1 (by ext CG.cur;rw[u];simp) (j _ (.inl rfl)).1)];show g1
 .refine Ch.keep (λ_ h=>h) v (λJ m x e=>?_) I.c.2;have q1:=P J m x e;have q2:=(CG.own_lt (Wh f)).1;show i x 'o' 'o' (Zy2 (I.pq J (Ae _ m)) e)
 .refine Dv.mpr (λx e=>?_,I.d);have:=(I.l x e).1;lia
 .rcases Ab.mp e with rfl|e
  .exact('o',by rw[R];show I.k.len)
  .have:=I.l x e;lia
 .rcases Ab.mp e with rfl|e
  .show .inl 'o'
  .show I.pq x e
 .let(c1,c2,Z,Y):=I.cl c s;show(c1,'o',Z,λx e=>?_);rcases Ab.mp e with rfl|e
  .show .inl 'o'
  .show Y x e
def GI.els(I:GI M0 p (f::r) C M)(i:isC f.h=true)(w:f.y=none):GI M0 p ({f with y:=some f.t,t:=[]}::r) C (M.set f.q (.lst [.ref (f.b+1)])):=by
 let(A,J,H,G,R):=I.top;let(N,B,O):=A.c;rw[Au] at B;have S:f.q=f.b+2:=by ext CG.q;rw[nc i]
 have s:f.cur=f.b:=by ext CG.cur;rw[w];rfl
 have e:∀x,x≠f.q->(M.set f.q (.lst [.ref (f.b+1)]))[x]?=M[x]?:=λx a=>Yc (Av a);have v:∀c,C c->(M.set f.q (.lst [.ref (f.b+1)]))[c]?=M[c]?:=λc i=>e c (H c i _ (.inr (.inr rfl)));have j:=G f.q (.inr (.inr rfl));show(I.k.set (.inr j.2.2),?_,((?_,([],?_,rfl),(λ_ z=>by cases z),λP L=>?_),?_),?_,λx a=>?_,λx a=>?_,λc n=>?_,I.pl)
 .rw[Z6 (e p (Av j.1)),I.o];simp[CG.q]
 .change Z2 _ f.q=some _;rw[Zd j.2.1];simp[CG.qL]
 .change Z2 _ (f.b+1)=_;rw[Z6 (e _ 'o')];show A.z i w
 .cases L;show(i,N,?_,O.keep (λ_ h=>h) v);change Z2 _ f.b=_;rw[Z6 (e _ 'o'),<-s];show B
 .refine Ch.keep (λ_ h=>h) v (λK m x a=>e x ?_) I.c.2;have Q:=J K m x a;lia
 .show Dv.mpr ((Dv.mp I.d).1,(Dv.mp I.d).2)
 .rw[Dm];rcases Ab.mp a with rfl|a
  .show I.l f Ad
  .show I.l x (Ae _ a)
 .rcases Ab.mp a with rfl|a
  .show I.pq f Ad
  .show I.pq x (Ae _ a)
 .let(F,E,D,u):=I.cl c n;show(F,by rw[Dm];show E,D,λx a=>?_);rcases Ab.mp a with rfl|a
  .show u f Ad
  .show u x (Ae _ a)
def GI.done(I:GI M0 p (f::g::r) C M)(F:f.abs.is t):GI M0 p ({g with t:=g.t++[f.abs.mk']}::r) (λc=>C c\/c=f.b\/c=f.b+1) (M.set p (.lst ((g::r).reverse.map λf=> .ref f.q))):=by
 let(X,h2,h3,G,h5):=I.top;let(H,B,J):=X.c;rw[Au] at B;let(gs,g1,g2):=I.c.2.1.c;have U:p<Lg M:=Z9 (Z0 I.o);have i:∀x,x≠p->(M.set p (.lst ((g::r).reverse.map λf=> .ref f.q)))[x]?=M[x]?:=λx e=>Yc (Av e);have S:∀c,C c->(M.set p (.lst ((g::r).reverse.map λf=> .ref f.q)))[c]?=M[c]?:=λc hc=>i c (I.cl c hc).2.2.1;have W:∀c,C c->C c\/c=f.b\/c=f.b+1:=λc h=> .inl h;have u:∀{Q:List T} {m:LD},RTs C M Q m->RTs (λc=>C c\/c=f.b\/c=f.b+1) (M.set p (.lst ((g::r).reverse.map λf=> .ref f.q))) Q m:=λh=>h.keep W S;have v:∀{x:Nat} {m:LD},f.own x->Z2 M x=some m->Z2 (M.set p (.lst ((g::r).reverse.map λf=> .ref f.q))) x=some m:=λe h=>by rw[Z6 (i _ (G _ e).1)];show h
 have Z:RT (λc=>C c\/c=f.b\/c=f.b+1) (M.set p (.lst ((g::r).reverse.map λf=> .ref f.q))) f.abs.mk' f.tp:=by
  clear I h2 h3 G h5 W S i g1 g2;generalize M.set p (.lst ((g::r).reverse.map λf=> .ref f.q))=M2 at u v;let(b,h,y,Q):=f;cases t with
  | cif=>let(A,a,s,b',w):=F;cases (show y=none from A);cases (show h=_ from w);show(_,_,H,[],rfl,.inr (.inl rfl),.inr (.inr rfl),v (.inl rfl) B,u J,v (.inr (.inl rfl)) (X.z rfl rfl),rfl)
  | cel=>
   let(A,a,s,b',w):=F;cases (show h=_ from w);cases y with
   | none=>cases A
   | some N=>let(_,m,P,O):=X.y N rfl;show(_,_,m,H,rfl,.inr (.inl rfl),.inr (.inr rfl),v (.inl rfl) P,u O,v (.inr (.inl rfl)) B,u J)
  | crd=>let(A,n,w):=F;cases (show y=none from A);cases (show h=_ from w);show(_,H,rfl,.inr (.inl rfl),v (.inl rfl) B,u J)
  | cpt=>let(A,n,w):=F;cases (show y=none from A);cases (show h=_ from w);show(_,H,rfl,.inr (.inl rfl),v (.inl rfl) B,u J)
 have E:∀x,g.own x->x≠p:=λx e=>Zy2 (I.pq g 's') e;have Y:=I.c.2.1;show(I.k.set (.inr I.pl),?_,((?_,(gs++[f.tp],?_,(u g2).app (.one Z)),λL K=>?_,λN ey=>?_),?_),?_,λx e=>?_,λx e=>?_,λc j=>?_,I.pl)
 .rw[Zd U];simp[CG.q]
 .change Z2 _ g.q=some g.qL;rw[Z6 (i _ (E _ (.inr (.inr rfl))))];show Y.q
 .rw[Au];change Z2 _ g.cur=_;rw[Z6 (i _ (E _ (Wh g)))];show g1
 .change Z2 _ (g.b+1)=_;rw[Z6 (i _ (E _ (.inr (.inl rfl))))];show Y.z L K
 .let(e0,m,P,O):=Y.y N ey;show(e0,m,?_,u O);change Z2 _ g.b=_;rw[Z6 (i _ (E _ (.inl rfl)))];show P
 .show Ch.keep W S (λg' V x e=>i x (Zy2 (I.pq g' (by simp[V])) e)) I.c.2.2
 .have:=(Dv.mp I.d).2;show Dv.mpr ((Dv.mp this).1,(Dv.mp this).2)
 .rw[Dm];rcases Ab.mp e with rfl|e
  .show I.l g 's'
  .show I.l x (by simp[e])
 .rcases Ab.mp e with rfl|e
  .show I.pq g 's'
  .show I.pq x (by simp[e])
 .rw[Dm];have fl:=I.l f Ad;have fd:=(Dv.mp I.d).1;have fp:p≠f.b/\p≠f.b+1:=(Av (G _ (.inl rfl)).1,Av (G _ (.inr (.inl rfl))).1);have R:∀c,c=f.b\/c=f.b+1->(Lg M0)<=c/\c<Lg M/\c≠p/\∀x∈({g with t:=g.t++[f.abs.mk']}::r),c<x.b\/x.b+3<=c:=by
   intro c hc;show('o','o','o',λx e=> .inr ?_);rcases Ab.mp e with rfl|e
   .have:g.b+3<=f.b:=fd g 's';change g.b+3<=c;lia
   .have:=fd x (by simp[e]);lia
  rcases j with j|j
  .let(L,K,z3,z4):=I.cl c j;show(L,K,z3,λx e=>?_);rcases Ab.mp e with rfl|e
   .show z4 g 's'
   .show z4 x (by simp[e])
  .show R c j
end
def lsD:Ln->Nat->D×Z3
 | .cond _ _ _,n=>#v[.ref (n+2),[.lst [],.lst [],.lst [.ref n,.ref (n+1)]]]
 | .rnd _,n=>#v[.ref (n+1),[.lst [],.lst [.ref n]]]
 | .prt _,n=>#v[.ref (n+1),[.lst [],.lst [.ref n]]]
 | _,n=>#v[.ref n,[.lst []]]
def Yx:DSp:=λa M Q _=>∃l:Ln,a=[l.h]/\Q (lsD l (Lg M)).1 (M++(lsD l (Lg M)).2)
def Yb:DSp:=λd M Q _=>∃(a:Nat) (b:LG),d=[.ref a]/\Zg M a=some (b.map Ln.h)/\(Lg b)<=400/\run [] b=some []/\∀C c r,Kp M c->Fm C c (Lg M) (nest b) r->Q (.ref r) c
structure NG(M:Z3)(ls:LG)(i:Nat)(fs:List CG)(C:Nat->Prop)(M':Z3):Prop where
 I:GI M (Lg M+2) fs C M'
 A:fs.map CG.abs=(ls.take i).foldl nst [fr0]
 t:∀f∈fs,f.t.length<=i
 l:Lg fs<=i+1
 z:(fs.getLast?).map CG.b=some (Lg M)
def Zy9{a:LG}{i:Nat}{d:D}(hd:(a.map Ln.h)[i]?=some d):∃l,a[i]?=some l/\d=l.h:=by
 rw[Dj] at hd;cases e:a[i]? with
 | none=>rw[e] at hd;cases hd
 | some l=>rw[e] at hd;cases hd;show(l,rfl,rfl)
def Yt4(f:CG):∃t,f.qL= .ref f.cur::t:=by
 unfold CG.qL CG.cur;split
 .exact(_,rfl)
 .split<;>show(_,rfl)
def GI.app{p:Nat}{fs:List CG}(I:GI M0 p fs C M)(N:Z3):GI M0 p fs C (M++N):=by
 show(I.k.app N,Z4 I.o,Ch.keep (λ_ h=>h) (λc b=>Y0 (I.cl c b).2.1) (λf a x e=>Y0 ?_) I.c,I.d,λf a=>?_,I.pq,λc b=>?_,I.pl)
 .have:=I.l f a;have:=CG.own_lt e;lia
 .have:=I.l f a;rw[Ac];lia
 .let(i,j,g):=I.cl c b;show(i,by rw[Ac];lia,g)
structure Mk(l:Ln)(n lr:Nat)(N1:Z3)(xs ys:LD):Prop where
 e:lsD l n=#v[.ref lr,N1]
 h:l.h= .tup ys
 y:ys≠[]/\(Lg ys)<=10
 x:Lg xs<=2/\xs.isEmpty=false
 t:D.tup (ys++xs)=(CG.mk n (some l) none []).tp
 q:(CG.mk n (some l) none []).q=lr/\(CG.mk n (some l) none []).qL=xs
 ml:n<lr/\2<=Lg N1
 r:∀M:Z3,Lg M=n->Z2 (M++N1) lr=some xs/\Z2 (M++N1) n=some []/\(isC (some l)=true->Z2 (M++N1) (n+1)=some []/\n+1<lr)
def Yv9(d:l.beg=true)(n:Nat):∃c f xs ys,Mk l n c f xs ys:=by
 cases l with
 | cond a s b=>show(_,_,[.ref n,.ref (n+1)],_,rfl,rfl,by simp,by simp,rfl,(rfl,rfl),by simp,λM e=>by subst e;show(by rw[Zl];rfl,by rw[Z5],λ_=>(by rw[Zl];rfl,'o')))
 | rnd k=>show(_,_,[.ref n],_,rfl,rfl,by simp,by simp,rfl,(rfl,rfl),by simp,λM e=>by subst e;show(by rw[Zl];rfl,by rw[Z5],λz=>by cases z))
 | prt k=>show(_,_,[.ref n],_,rfl,rfl,by simp,by simp,rfl,(rfl,rfl),by simp,λM e=>by subst e;show(by rw[Zl];rfl,by rw[Z5],λz=>by cases z))
 | _=>cases d
def Yf8(b:l.beg=false)(a:l.pl=true)(n:Nat):lsD l n=#v[.ref n,[.lst []]]/\l.h=l.d:=by cases l<;>first | show(rfl,rfl) | (cases b;done) | (cases a;done)
def Zd7{f a:CG}(h:a.b=f.b):((a::r).getLast?).map CG.b=((f::r).getLast?).map CG.b:=by
 cases r with
 | nil=>simp[h]
 | cons x r=>rw[Ix,Ix]
section
variable{K:Aa}{Γ:List DSp}{G:LD}
def Z48:Rd K Γ G Yx Nh N4:=by
 rintro a M Q Z ⟨l,rfl,q⟩;delta Nh N4;cases l<;>erw[Ln.h,Ln.g,Ln.d,lsD] at q |- <;>rfl'
 all_goals try delta Rx
 all_goals rfl'
 case cond=>erw[An,Dh,Ho,Ac,Af,Dy];show(nj _,nj _,Z1 'd',q)
 case rnd=>show(Z1 'd',rfl,rfl,?_);dsimp only;rw[nc 'k'];erw[An,Dh,Ho,Ac,Af,Dy];show(nj _,Z1 'd',q)
 case prt=>show(Z1 'd',rfl,rfl,?_);dsimp only;rw[nc 'k'];erw[An,Dh,Ho,Ac,Af,Dy];show(nj _,Z1 'd',q)
 all_goals
  show(Z1 'd',rfl,rfl,?_);dsimp only;rw[nb 'k'];delta Rz;rfl';show(nj _,q)
def Yd1(h:isDn l=true):l= .don:=by cases l<;>first | rfl | (cases h;done)
def Y86(h:notE l=false):l= .els:=by cases l<;>first | rfl | (cases h;done)
def Yy7(b:isDn l=false)(a:notE l=true):l.pl=true:=by cases l<;>first | rfl | (cases b;done) | (cases a;done)
def Y48(l:Ln):(tlD l).length<=4:=by cases l<;>simp[tlD]
def Zz0(b:l.beg=false)(a:l.pl=true)(f:Fr)(r:List Fr):{f with n:=f.n++[.leaf l]}::r=nst (f::r) l:=by cases l<;>first | rfl | (cases b;done) | (cases a;done)
def Zo2(e0:G[0]?=some (.gtup [.str "else"]))(e1:G[1]?=some (.gtup [.str "done"]))(g:Γ[3]?=some Yx):Rd K Γ G Yb Fa Fb:=by
 rintro V M Q Z ⟨a,ls,rfl,hr,hl,s,q⟩;delta Fa Fb;rfl';erw[An,Dh,Ho,Ac,Af,Dy];show(Z1 'd',Z1 'd',Z1 'd',_,Zc hr,?_);show Wg (λi σ m=>∃fs C d3 d4,σ=[↑a,↑(Lg M),some (.ref (Lg M+2)),d3,d4]/\NG M ls i fs C m) ([(Lg M,none,none,[])],λ_=>False,none,none,rfl,?_) ?_ ?_ ?_
 .refine((Ks.new _ _,?_,((?_,([],?_,rfl),(λz _=>by cases z),(λys e=>by cases e)),trivial),List.pairwise_singleton _ _,λf H=>?_,λf H=>?_,λc h=>h.elim,'o'),rfl,λf H=>?_,na _,rfl)
  .rw[Zl];rfl
  .change Z2 _ (Lg M+1)=_;rw[Zl];rfl
  .show Z5 _ _ _
  .cases Aq.mp H;show(by simp,na _)
  .cases Aq.mp H;show .inr (rfl,rfl)
  .cases Aq.mp H;show na _
 .rintro i σ m _ ⟨fs,C,d3,d4,rfl,N⟩;show N.I.k.pL hr
 .rintro i d σ m P hd ⟨fs,C,d3,d4,rfl,N⟩ hP;let(l,W,rfl):=Zy9 hd;have hi:i<400:=by have:=(Ai.mp W).1;lia
  let(us,u0):=Ze6 s i;let(z0,L):=Ze6 s (i+1);rw[Xd W,R0,u0] at L;replace L:stp us l=some z0:=by
   have:(stp us l).bind (λt=>run t [])=some z0:=L;cases h:stp us l with
   | none=>rw[h] at this;cases this
   | some t=>rwa[h] at this
  have F:=Fss.run (fs:=[fr0]) (ts:=[]) ([],rfl) u0;rw[<-N.A] at F;have A':∀{Y:List CG},Y.map CG.abs=nst (fs.map CG.abs) l->Y.map CG.abs=(ls.take (i+1)).foldl nst [fr0]:=by intro Y h;rw[h,N.A,Xd W,Hu];rfl
  let(f0,fr,eA,_):=F.top;cases fs with
  | nil=>cases eA
  | cons f r=>
  have H:=N.I.c.1;let(V,J,rt):=H.c;rw[Au] at J;have ft:=N.t f Ad;have dl:=rt.len;have w:Lg r<=i:=by have:=N.l;rw[Af] at this;lia
  have zz:=N.z;rw[tg_one];delta Qt;generalize hB:(Ss.cons (S.ite (E.cmp Cm.eq (E.var 3) (E.glb 0)) _ _) Ss.nil)=B;rfl';erw[e1];show Jd ?_;have rv:(f::r).reverse.map (λf=>D.ref f.q)=r.reverse.map (λf=>D.ref f.q)++[.ref f.q]:=by rw[Km,Dc];rfl
  have U:=N.I.o;rw[rv] at U;cases v0:isDn l with
  | true=>
   rw[Yd1 v0] at L A';let(t,rfl):=Zo6 L;let(f',r',ef,s0,hF):=F;let(rfl,rfl):=De ef;let(g',r0,eg,_):=hF.top;cases r with
   | nil=>cases eg
   | cons g0 r=>
   rfl';show(Ze (Z0 U),_,.ref f.q,U,by simp,?_);rw[Kr];show hP _ _ (_,_,_,_,rfl,N.I.done s0,A' rfl,λx j=>?_,?_,?_)
   .rcases Ab.mp j with rfl|j
    .have:=N.t g0 's';rw[show({g0 with t:=g0.t++[f.abs.mk']}:CG).t=g0.t++[f.abs.mk'] from rfl,Ac,Dg];lia
    .have:=N.t x (by simp[j]);lia
   .simp only[Af] at w |-;lia
   .rw[Ix] at zz;show Eq.trans (Zd7 (f:=g0) ?_) zz;rfl
  | false=>
   rfl';subst hB;generalize hB:(Ss.cons (S.set [4] _) _)=B;rfl';erw[e0];show Qu ?_;cases w0:notE l with
   | false=>
    rw[Y86 w0] at L A';let(rr,rfl,rfl):=Zi2 L;let(f',r',ef,(x0,a',s',b',y0),hF):=F;let(rfl,rfl):=De ef;rfl';have hh:isC f.h=true:=by rw[show f.h=_ from y0];rfl
    have hy:f.y=none:=x0;have fq:=H.q;have qe:f.qL=[.ref f.b,.ref (f.b+1)]:=by ext CG.qL;rw[hy,hh];rfl
    rw[qe] at fq;show Xe (Z0 U) (Wn _ _) ?_;rfl';show(Ze (Z0 fq),_,_,0,rfl,fq,rfl,?_);show hP _ _ (_,_,_,_,rfl,N.I.els hh hy,A' rfl,λx j=>?_,?_,?_)
    .rcases Ab.mp j with rfl|j
     .show nj _
     .have:=N.t x (by simp[j]);lia
    .simp only[Af] at w |-;lia
    .refine Eq.trans (Zd7 (f:=f) ?_) zz;rfl
   | true=>
    rfl';subst hB;rfl';erw[g];show(l,rfl,?_);rfl';let(qt,qe):=Yt4 f;have fq:=H.q;rw[qe] at fq;let(h1,h2,h3,h4,h5):=N.I.top;have pM:=Z9 (Z0 U);have cp:f.cur≠Lg M+2:=(h4 _ (Wh f)).1;cases hb:l.beg with
    | false=>
     have u:=Yy7 v0 w0;let(el,eh):=Yf8 hb u (Lg m);rw[el];show Xe (Zc (Z0 U)) (Wn _ _) (ix_l (k:=0) (Zc (Z0 fq)) rfl ?_);rfl';show(Ze (Zc (Z0 J)),[],Zh _ _ [],?_);rw[Ln.h_eq u];rfl';show(by simp,Z1 (by have:=Y48 l;simp;lia),_,Z4 J,Za 'o',nj _,?_);rw[<-Ln.h_eq u,eh];have hn:Zg ((m++[Cell.lst []]).set f.cur (.lst (V++[l.d]))) (Lg m)=some []:=Z0 (by rw[Z8 'o'];show Z5 _ _ []);show Ti (Zc hn) (Zh _ _ []) ?_;show hP _ _ (_,_,_,_,rfl,(N.I.put (N:=[.lst []]) J rt (show RT C m (.leaf l) l.d from(rfl,u,hb))).app _,A' ?_,λx j=>?_,?_,?_)
     .show Zz0 hb u f.abs (r.map CG.abs)
     .rcases Ab.mp j with rfl|j
      .rw[show({f with t:=f.t++[T.leaf l]}:CG).t=f.t++[T.leaf l] from rfl,Ac,Dg];lia
      .have:=N.t x (by simp[j]);lia
     .simp only[Af] at w |-;lia
     .refine Eq.trans (Zd7 (f:=f) ?_) zz;rfl
    | true=>
     let(lr,N1,xs,ys,mk):=Yv9 hb (Lg m);let(r1,r2,r3):=mk.r m rfl;have ml:=mk.ml;rw[mk.e];show Xe (Zc (Z0 U)) (Wn _ _) (ix_l (k:=0) (Zc (Z0 fq)) rfl ?_);rfl';show(Ze (Zc (Z0 J)),xs,Z0 r1,?_);rw[mk.h];rfl';show(mk.y.1,Z1 (by have:=mk.y.2;have:=mk.x.1;lia),_,Z4 J,Za 'o',nj _,?_);rw[mk.t,<-mk.h];obtain⟨X,p⟩:∃X:CG,X=⟨Lg m,some l,none,[]⟩:=(_,rfl);rw[<-p];have gq:X.q=lr/\X.qL=xs:=by rw[p];show mk.q
     have gb:X.b=Lg m:=by rw[p]
     obtain⟨S2,v⟩:∃S2:Z3,S2=(m++N1).set f.cur (.lst (V++[X.tp])):=(_,rfl);rw[<-v];have l2:Lg S2=Lg m+Lg N1:=by rw[v,Dm,Ac]
     have R:∀x es,x≠f.cur->Z2 (m++N1) x=some es->Z2 S2 x=some es:=λx es j e=>by rw[v,Z8 (Av j)];show e
     have q2:=R lr xs 'o' r1;have o2:=R _ _ (Av cp) (Z4 U);show Ti (Zc (Z0 q2)) (Zh _ _ []) ?_;rw[mk.x.2,nc rfl];show(Ze (Z0 (Z4 o2)),_,Z4 o2,Za (by rw[Ac,Al,Dp,Dg];lia),?_);have t0:Lg M+2< (S2++[Cell.lst []]).length:=by rw[Ac];lia
     have O:∀x es,x≠Lg M+2->Z2 S2 x=some es->Z2 ((S2++[Cell.lst []]).set (Lg M+2) (.lst (r.reverse.map (λf=>D.ref f.q)++[.ref f.q]++[.ref lr]))) x=some es:=λx es j e=>by rw[Z8 (Av j)];show Z4 e
     show hP _ _ (X::f::r,C,_,_,rfl,N.I.open (l:=l) rt p (λx j x1 x2=>?_) ?_ ?_ ?_ ?_ ?_ ?_,A' ?_,λx j=>?_,?_,?_)
     .rw[Yc (Av x2),Y0 'o',v,Yc (Av x1),Y0 j]
     .refine O _ _ cp ?_;rw[v];show Zd (by rw[Ac];lia)
     .rw[Zd t0,Km,Dc,rv,<-gq.1];rfl
     .rw[gq.1,gq.2];show O _ _ 'o' q2
     .rw[gb];show O _ _ 'o' (R _ _ 'o' r2)
     .intro z;rw[gb];let(r4,r5):=r3 (by rw[p] at z;show z);show O _ _ 'o' (R _ _ 'o' r4)
     .rw[Dm,Ac,l2,Dg];lia
     .rw[p,Ln.nst_beg hb];rfl
     .rcases Ab.mp j with rfl|j
      .rw[p];show nj _
      .have:=N.t x j;lia
     .simp only[Af] at w |-;lia
     .rw[Ix];show zz
 .rintro σ m ⟨fs,C,d3,d4,rfl,N⟩;have A:=N.A;rw[Al,Ii (na _),Zx1 s] at A;delta O2;rfl';obtain⟨f,rfl⟩:∃f,fs=[f]:=Ke.mp (by have:=congrArg Lg A;simpa using this)
  .have ea:f.abs=(none,none,nest ls):=(De A).1;let(b,h,y,t):=f;have e1:h=none:=congrArg Fr.h ea;have L:y=none:=congrArg Fr.y ea;have e3:t=nest ls:=congrArg Fr.n ea;subst e1 L e3;have zb:b=Lg M:=Dw N.z;subst zb;let(V,J,rt):=N.I.c.1.c;rw[Au] at J;show q C m _ N.I.k ((V,J,rt),λc h=>((N.I.cl c h).1,(N.I.cl c h).2.1),λh=>?_,na _);have:=(N.I.cl _ h).2.2.2 _ Ad;simp at this;lia
end
structure Oc(K:Aa)(C:Uc):Prop where
 l:OC K C "line"
 s:OC K C "lists"
 g:OC K C "goings"
section
variable{K:Aa}{p C dx:Uc}{x y z:D}{F:D->Prop}
def Oc.fl(o:Oc K C)(q:F x):fldD K (.obj p C dx x y z) "line" F:=(o.l,by rw[nc rfl];show q)
def Oc.fs(o:Oc K C)(q:F y):fldD K (.obj p C dx x y z) "lists" F:=(o.s,by rw[nb 'k',nc rfl];show q)
def Oc.fg(o:Oc K C)(q:F z):fldD K (.obj p C dx x y z) "goings" F:=(o.g,by rw[nb 'k',nb 'k',nc rfl];show q)
end
def Zs2(n:Nat):ixN (n+1) (-1)=some n:=by
 ext ixN;simp
 try lia
def Zz5(xs:LD)(x y:D):(xs++[x]).set (Lg xs) y=xs++[y]:=by rw[List.set_append_right _ _ (na _),Nat.sub_self];rfl
def W0(K:Aa):DSp:=λk M Q _=>∃(p C j:Uc) (i:D) (a b c r:Nat) (g v:Bool) (h f e d:LD),k=[.obj p C j i (.ref a) (.ref b),.ref r,.bl g]/\Oc K C/\Z2 M b=some (f++[.bl v])/\Z2 M a=some (h++[.ref c])/\Z2 M c=some e/\Z2 M r=some d/\
 b≠c/\(Lg e)+Lg d<=1000/\Q .non (if v then(M.set c (.lst (e++d))).set b (.lst (f++[.bl g])) else M)
def Y7(K:Aa):DSp:=λg M Q _=>∃(p C f:Uc) (e:D) (a b:Nat) (c d:LD),g=[.obj p C f e (.ref a) (.ref b)]/\Oc K C/\Z2 M b=some d/\Z2 M a=some c/\a≠b/\(Lg c)<=1000/\(Lg d)<=1000/\
 Q .non (Ha (Ha (M++[Cell.lst []]) a (.lst (c++[.ref (Lg M)]))) b (.lst (d++[.bl true])))
def Yi1{Γ G}:Rd K Γ G (W0 K) Zm2 Zf5:=by
 rintro e M Q Z ⟨p,C,u,s,a,b,c,r,g,v,o,l,n,m,rfl,d,h,k,f,j,i,t,q⟩;delta Zm2 Zf5;rfl';show d.fg (Xe (Z0 h) (Wn _ _) ?_);rfl';cases v with
 | false=>show q
 | true=>
  erw[if_true] at q |-;show d.fs (Xe (Z0 k) (Wn _ _) ?_);rfl';show(Ze (Z0 f),_,_,f,j,Z1 'o',?_);show d.fg (.inl (_,-1,Lg l,rfl,by rw[Z8 i.symm];show h,?_,?_))
  .rw[Ac];show Zs2 _
  .rw[Zz5];show q
def Eu{Γ G}:Rd K Γ G (Y7 K) Pm O6:=by
 rintro c M Q Z ⟨p,C,n,k,a,b,h,j,rfl,d,i,e,g,l,m,q⟩;delta Pm O6;rfl';show d.fs (Ze (Z0 e),nj _,?_);rfl';have f:Z2 (Ha (M++[Cell.lst []]) a (.lst (h++[.ref (Lg M)]))) b=some j:=by rw[Z8 g];show Z4 i
 show(_,Z4 e,Za 'o',d.fg ?_);show(Ze (Z0 f),_,f,Za 'o',q)
def Ln.num:Ln->Option Int
 | .rnd n=>some n
 | .prt n=>some n
 | .lve n=>some n
 | .agn n=>some n
 | _=>none
def Ln.ren(f:Int->Int):Ln->Ln
 | .rnd n=> .rnd (f n)
 | .prt n=> .prt (f n)
 | .lve n=> .lve (f n)
 | .agn n=> .agn (f n)
 | l=>l
def X2:DSp:=λb M Q _=>∃(l:Ln) (r:Nat) (a:KQ9) (f:Int->Int),b=[l.h,.ref r]/\Yk M r=some a/\(∀n,l.num=some n->valD a (Hr n)=some (.int (f n)))/\Q (l.ren f).h M
def Jv{Γ G}:Rd K Γ G X2 S9 Sm:=by
 rintro c M Q Z ⟨l,r,e,f,rfl,j,i,q⟩;delta S9 Sm;have p:∀n,l.num=some n->∀F:D->Prop,F (.int (f n))->ixD M (.ref r) (.int n) F:=λn h F q=>ix_d j rfl (i n h) q;have a:∀(w:Str) (n:Int),l.num=some n->inD (.str w) [.str "round",.str "part",.str "leave",.str "again"]=true->Q (.tup [.str w,.int (f n)]) M->
   4<=sizeLine/\inQ M (.str w) (.tup [.str "round",.str "part",.str "leave",.str "again"]) λb=>if b=true then ixD M (.ref r) (.int n) λd=>2<=sizeLine/\Q (.tup [.str w,d]) M else tss (K,Γ,G) noX Xy {nx:=λ_ M=>Q .non M,rt:=Q} [some (.tup [.str w,.int n]),↑r] M:=λw n o m k=>by
  show(Z1 'd',rfl,rfl,?_);rw[m];dsimp only;rw[nc rfl];show p n o _ (Z1 'd',k)
 cases l with
 | rnd n=>erw[Ln.h,Ln.g,Ln.d,Ln.ren] at q |-;rfl';show a _ n rfl 'k' q
 | prt n=>erw[Ln.h,Ln.g,Ln.d,Ln.ren] at q |-;rfl';show a _ n rfl 'k' q
 | lve n=>erw[Ln.h,Ln.g,Ln.d,Ln.ren] at q |-;rfl';show a _ n rfl 'k' q
 | agn n=>erw[Ln.h,Ln.g,Ln.d,Ln.ren] at q |-;rfl';show a _ n rfl 'k' q
 | _=>erw[Ln.h,Ln.g,Ln.d,Ln.ren] at q |-;rfl';show(Z1 'd',rfl,rfl,?_);dsimp only;rw[nb 'k'];delta Xy;rfl';show q
def jl(w:Bool)(n:Int):Ln:=if w then .lve n else .agn n
def Ln.isJ(w:Bool)(n:Int):Ln->Bool
 | .lve m=>w&&decide (m=n)
 | .agn m=> !w&&decide (m=n)
 | _=>false
def V8:DSp:=λf M Q _=>∃C a r b w n,f=[.ref r,(jl w n).d]/\Z2 M r=some b/\RTs C M a b/\(∀c,C c->c<Lg M)/\(fls a).length<=1000/\∀e,Kp M e->Q (.bl ((fls a).any (Ln.isJ w n))) e
def g_gt(l:Ln):l.g=gt #v[!l.pl,.str (hw l)::tlD l]:=by cases l<;>rfl
def Y41(w:Bool)(n:Int)(l:Ln):eqFs (.str (hw l)::tlD l) [.str (if w then "leave" else "again"),.int n]=l.isJ w n:=by cases w<;>cases l<;>simp[eqFs,eqF,hw,tlD,Ln.isJ,List.range_succ]<;>first | decide+kernel | (intro z;show absurd z 'k') | rfl
def Za9{Γ G}(g:Γ[2]?=some Zn):Rd K Γ G V8 Nc Oi:=by
 rintro ds M Q Z ⟨C,us,r,es,w,n,rfl,hr,rt,hC,hz,q⟩;delta Nc Oi;rfl';erw[g];show(C,us,r,es,rfl,hr,rt,hC,hz,λM' r' k e _=>?_);rfl';have ej:(jl w n).d= .tup [.str (if w then "leave" else "again"),.int n]:=by cases w<;>rfl
 rw[ej];show .inr (.inr (.inl (_,(fls us).map λl=>#v[!l.pl,.str (hw l)::tlD l],rfl,?_,by cases w<;>rfl,?_,?_)))
 .rw[List.map_map,Z0 e];show congrArg some (List.map_congr_left λl _=>g_gt l)
 .rw[List.all_map,Hy];intro l _;show(true&&(tlD l).all Yd)=true;rw[G3];rfl
 .rw[List.any_map];have:((λz:Bool×LD=>eqFs z.2 [.str (if w then "leave" else "again"),.int n]) ∘ λl:Ln=>#v[!l.pl,.str (hw l)::tlD l])=Ln.isJ w n:=funext λl=>Y41 w n l;rw[this];show q M' k
structure Dl where
 x:Str
 a:Opd
 s:Str
 b:Opd
abbrev FF:=TD.Fm Dl
def ofF:FF->List T
 | .nil=>[]
 | .act d r=> .leaf (.sum d.x d.a d.s d.b)::ofF r
 | .fin _ r=> .leaf .fin::ofF r
 | .lv n r=> .leaf (.lve n)::ofF r
 | .ag n r=> .leaf (.agn n)::ofF r
 | .ch d y n r=> .cho d.a d.s d.b (ofF y) (ofF n)::ofF r
 | .rd k b r=> .home true k (ofF b)::ofF r
 | .pt k b r=> .home false k (ofF b)::ofF r
def lns(s:FF):LG:=fls (ofF s)
def Wc(d:Dl)(y n r:FF):lns (.ch d y n r)= .cond d.a d.s d.b::(lns y++((if TD.isNil n then [] else .els::lns n)++ .don::lns r)):=by
 change fl (.cho d.a d.s d.b (ofF y) (ofF n))++fls (ofF r)=_;have:TD.isNil n=(ofF n).isEmpty:=by cases n<;>rfl
 rw[this];ext lns;cases ofF n with
 | nil=>rw[Cf];simp
 | cons t c=>rw[B9];simp
def W7(k:Nat)(b r:FF):lns (.rd k b r)= .rnd k::(lns b++ .don::lns r):=by change fl (.home true k (ofF b))++fls (ofF r)=_;rw[Jn];simp[lns]
def W5(k:Nat)(b r:FF):lns (.pt k b r)= .prt k::(lns b++ .don::lns r):=by change fl (.home false k (ofF b))++fls (ofF r)=_;rw[Jn];simp[lns]
def Xf(d:Dl)(r:FF):lns (.act d r)= .sum d.x d.a d.s d.b::lns r:=rfl
def Xh(d:Dl)(r:FF):lns (.fin d r)= .fin::lns r:=rfl
def V6(n:Nat)(r:FF):lns (.lv n r)= .lve n::lns r:=rfl
def V7(n:Nat)(r:FF):lns (.ag n r)= .agn n::lns r:=rfl
def Yi4:lns .nil=[]:=rfl
def Y53(s:FF):∀(f:Fr) (r:List Fr),(lns s).foldl nst (f::r)=(f.h,f.y,f.n++ofF s)::r:=by
 induction s with
 | nil=>intro f r;simp[Yi4,ofF]
 | act d s c=>intro f r;rw[Xf];show(lns s).foldl nst ((f.h,f.y,f.n++[_])::r)=_;rw[c];simp[ofF]
 | fin d s c=>intro f r;rw[Xh];show(lns s).foldl nst ((f.h,f.y,f.n++[_])::r)=_;rw[c];simp[ofF]
 | lv n s c=>intro f r;rw[V6];show(lns s).foldl nst ((f.h,f.y,f.n++[_])::r)=_;rw[c];simp[ofF]
 | ag n s c=>intro f r;rw[V7];show(lns s).foldl nst ((f.h,f.y,f.n++[_])::r)=_;rw[c];simp[ofF]
 | ch d y n s g i c=>
  intro f r;rw[Wc];show(lns y++_).foldl nst ((some (.cond d.a d.s d.b),none,[])::f::r)=_;rw[Hu,g,Hu];by_cases h:TD.isNil n=true
  .rw[nc h,TD.isNil_eq h];show(lns s).foldl nst ((f.h,f.y,f.n++[.cho d.a d.s d.b _ []])::r)=_;rw[c];simp[ofF]
  .rw[nb h];show(Ln.don::lns s).foldl nst ((lns n).foldl nst ((some (.cond d.a d.s d.b),some _,[])::f::r))=_;rw[i];show(lns s).foldl nst ((f.h,f.y,f.n++[.cho d.a d.s d.b _ _])::r)=_;rw[c];simp[ofF]
 | rd k b s e c=>intro f r;rw[W7];show(lns b++_).foldl nst ((some (.rnd k),none,[])::f::r)=_;rw[Hu,e];show(lns s).foldl nst ((f.h,f.y,f.n++[.home true k _])::r)=_;rw[c];simp[ofF]
 | pt k b s e c=>intro f r;rw[W5];show(lns b++_).foldl nst ((some (.prt k),none,[])::f::r)=_;rw[Hu,e];show(lns s).foldl nst ((f.h,f.y,f.n++[.home false k _])::r)=_;rw[c];simp[ofF]
def Ze1(s:FF):∀st,run st (lns s)=some st:=by
 induction s with
 | nil=>intro st;rfl
 | act d s a=>intro st;rw[Xf];show(stp st _).bind _=_;cases st<;>show a _
 | fin d s a=>intro st;rw[Xh];show(stp st _).bind _=_;cases st<;>show a _
 | lv n s a=>intro st;rw[V6];show(stp st _).bind _=_;cases st<;>show a _
 | ag n s a=>intro st;rw[V7];show(stp st _).bind _=_;cases st<;>show a _
 | ch d y n s e f a=>
  intro st;rw[Wc];change run (.cif::st) (lns y++_)=_;rw[R0,e];change run (.cif::st) _=_;by_cases h:TD.isNil n=true
  .rw[nc h];show a st
  .rw[nb h];change run (.cel::st) (lns n++_)=_;rw[R0,f];show a st
 | rd k b s c a=>intro st;rw[W7];change run (.crd::st) (lns b++_)=_;rw[R0,c];show a st
 | pt k b s c a=>intro st;rw[W5];change run (.cpt::st) (lns b++_)=_;rw[R0,c];show a st
def Z37(s:FF):nest (lns s)=ofF s:=by ext nest;rw[Y53];rfl
def Yr8(k:Nat)(s:FF):(lns s).any (Ln.isJ true k)=TD.hl k s:=by
 induction s with
 | nil=>rfl
 | act d s a=>rw[Xf,Ax,a];rfl
 | fin d s a=>rw[Xh,Ax,a];rfl
 | lv n s a=>rw[V6,Ax,a];show(true&&decide ((n:Int)=k) || _)=(decide (n=k) || _);rw[Bool.true_and,show decide ((n:Int)=k)=decide (n=k) from decide_eq_decide.mpr ('o','o')]
 | ag n s a=>rw[V7,Ax,a];rfl
 | ch d y n s e f a=>
  rw[Wc,Ax,Hw,Hw,Ax,a,e];show(false || (TD.hl k y || (_ || (false || TD.hl k s))))=(TD.hl k y || TD.hl k n || TD.hl k s);by_cases h:TD.isNil n=true
  .rw[nc h,TD.isNil_eq h];simp[TD.hl]
  .rw[nb h,Ax,f];simp[Ln.isJ,Bool.or_assoc]
 | rd j b s c a=>rw[W7,Ax,Hw,Ax,a,c];simp[Ln.isJ,TD.hl]
 | pt j b s c a=>rw[W5,Ax,Hw,Ax,a,c];simp[Ln.isJ,TD.hl]
def Yl9(k:Nat)(s:FF):(lns s).any (Ln.isJ false k)=TD.ha k s:=by
 induction s with
 | nil=>rfl
 | act d s a=>rw[Xf,Ax,a];rfl
 | fin d s a=>rw[Xh,Ax,a];rfl
 | ag n s a=>rw[V7,Ax,a];show(true&&decide ((n:Int)=k) || _)=(decide (n=k) || _);rw[Bool.true_and,show decide ((n:Int)=k)=decide (n=k) from decide_eq_decide.mpr ('o','o')]
 | lv n s a=>rw[V6,Ax,a];rfl
 | ch d y n s e f a=>
  rw[Wc,Ax,Hw,Hw,Ax,a,e];show(false || (TD.ha k y || (_ || (false || TD.ha k s))))=(TD.ha k y || TD.ha k n || TD.ha k s);by_cases h:TD.isNil n=true
  .rw[nc h,TD.isNil_eq h];simp[TD.ha]
  .rw[nb h,Ax,f];simp[Ln.isJ,Bool.or_assoc]
 | rd j b s c a=>rw[W7,Ax,Hw,Ax,a,c];simp[Ln.isJ,TD.ha]
 | pt j b s c a=>rw[W5,Ax,Hw,Ax,a,c];simp[Ln.isJ,TD.ha]
def Zo(k m:Nat)(s:FF):TD.isNil (TD.sub k m s)=TD.isNil s:=by cases s<;>rfl
def subL(k m:Nat)(l:Ln):Ln:=if l.isJ true k then .lve m else l
def Zj6(k m:Nat)(s:FF):(lns s).map (subL k m)=lns (TD.sub k m s):=by
 induction s with
 | nil=>rfl
 | act d s a=>rw[Xf,Aj,a];rfl
 | fin d s a=>rw[Xh,Aj,a];rfl
 | lv n s a=>
  rw[V6,Aj,a];show(if (true&&decide ((n:Int)=k))=true then Ln.lve m else .lve n)::_=Ln.lve ((if n=k then m else n:Nat))::_;by_cases h:n=k
  .rw[nc h,nc (by rw[h];simp)];rfl
  .rw[nb h,nb (by rw[Bool.true_and,decide_eq_true_eq];lia)];rfl
 | ag n s a=>rw[V7,Aj,a];rfl
 | ch d y n s e f a=>
  change _=lns (.ch d _ _ _);rw[Wc,Wc,Zo,Aj,Dc,Dc,Aj,a,e];by_cases h:TD.isNil n=true
  .rw[nc h,nc h];rfl
  .rw[nb h,nb h,Aj,f];rfl
 | rd j b s c a=>change _=lns (.rd j _ _);rw[W7,W7,Aj,Dc,Aj,a,c];rfl
 | pt j b s c a=>change _=lns (.pt j _ _);rw[W5,W5,Aj,Dc,Aj,a,c];rfl
def Cq(f:Nat->Nat)(g:Int->Int)(h:∀n:Nat,g n=f n)(s:FF):(lns s).map (Ln.ren g)=lns (TD.ren f s):=by
 induction s with
 | nil=>rfl
 | act d s a=>rw[Xf,Aj,a];rfl
 | fin d s a=>rw[Xh,Aj,a];rfl
 | lv n s a=>rw[V6,Aj,a];change Ln.lve (g n)::_=Ln.lve (f n)::_;rw[h];rfl
 | ag n s a=>rw[V7,Aj,a];change Ln.agn (g n)::_=Ln.agn (f n)::_;rw[h];rfl
 | ch d y n s e i a=>
  change _=lns (.ch d _ _ _);rw[Wc,Wc,TD.isNil_ren,Aj,Dc,Dc,Aj,a,e];by_cases z:TD.isNil n=true
  .rw[nc z,nc z];rfl
  .rw[nb z,nb z,Aj,i];rfl
 | rd j b s c a=>change _=lns (.rd (f j) _ _);rw[W7,W7,Aj,Dc,Aj,a,c];change Ln.rnd (g j)::_=_;rw[h];rfl
 | pt j b s c a=>change _=lns (.pt (f j) _ _);rw[W5,W5,Aj,Dc,Aj,a,c];change Ln.prt (g j)::_=_;rw[h];rfl
def Y73(s t:FF):lns (TD.app s t)=lns s++lns t:=by
 induction s with
 | nil=>rfl
 | act d s a=>change lns (.act d _)=_;rw[Xf,Xf,a];rfl
 | fin d s a=>change lns (.fin d _)=_;rw[Xh,Xh,a];rfl
 | lv n s a=>change lns (.lv n _)=_;rw[V6,V6,a];rfl
 | ag n s a=>change lns (.ag n _)=_;rw[V7,V7,a];rfl
 | ch d y n s _ _ a=>change lns (.ch d y n _)=_;rw[Wc,Wc,a];simp
 | rd j b s _ a=>change lns (.rd j b _)=_;rw[W7,W7,a];simp
 | pt j b s _ a=>change lns (.pt j b _)=_;rw[W5,W5,a];simp
def nl(s:FF):Nat:=(lns s).length
def R6(d:Dl)(y n r:FF):nl (.ch d y n r)=nl y+(if TD.isNil n then 0 else 1+nl n)+2+nl r:=by ext nl;rw[Wc];split<;>erw[Af,Ac,Dy]<;>lia
def F8(k:Nat)(b r:FF):nl (.rd k b r)=nl b+2+nl r:=by ext nl;rw[W7];erw[Af,Ac];lia
def E6(k:Nat)(b r:FF):nl (.pt k b r)=nl b+2+nl r:=by ext nl;rw[W5];erw[Af,Ac];lia
def Vj(d:Dl)(r:FF):nl (.act d r)=1+nl r:=by ext nl;rw[Xf];erw[Af];lia
def Sj(d:Dl)(r:FF):nl (.fin d r)=1+nl r:=by ext nl;rw[Xh];erw[Af];lia
def Z72(k:Nat)(r:FF):nl (.lv k r)=1+nl r:=by ext nl;rw[V6];erw[Af];lia
def Ca(k:Nat)(r:FF):nl (.ag k r)=1+nl r:=by ext nl;rw[V7];erw[Af];lia
def Zj:nl .nil=0:=rfl
def Xx(s t:FF):nl (TD.app s t)=nl s+nl t:=by ext nl;rw[Y73,Ac]
def Y33(k m:Nat)(s:FF):nl (TD.sub k m s)=nl s:=by ext nl;rw[<-Zj6,Al]
def Zn1(w:Bool)(k:Nat)(s:FF):nl (TD.cut w k s)<=nl s:=by
 induction s with
 | nil=>show na _
 | act d s a=>erw[TD.cut,Vj];lia
 | fin d s a=>erw[TD.cut,Sj];lia
 | lv n s a=>erw[TD.cut];split<;>erw[Z72,Zj]<;>lia
 | ag n s a=>erw[TD.cut];split<;>erw[Ca,Zj]<;>lia
 | ch d y n s c e a=>
  erw[TD.cut];split
  .rw[R6,R6,Zj];by_cases h:TD.isNil n=true
   .rw[nc h,nc (by rw[TD.isNil_eq h];rfl)];lia
   .rw[nb h];split<;>lia
  .rw[R6,R6];lia
 | rd j b s _ a=>erw[TD.cut,F8];lia
 | pt j b s _ a=>erw[TD.cut,E6];lia
def Yj7(k:Nat)(b:FF):nl (TD.one k b)<=nl b+2:=by
 ext TD.one;split
 .rw[Y33];lia
 .rw[E6,Zj];lia
def Cg(k:Nat)(b:FF)(g:Bool):nl (TD.clsP k b g).1<=nl b+2:=by
 have:=Zn1 true k b;ext TD.clsP;split
 .have:=Yj7 k (TD.cut true k b);dsimp only;lia
 .dsimp only;lia
def Zc7(k:Nat)(b:FF)(g:Bool):nl (TD.clsR k b g).1<=nl b+2:=by
 ext TD.clsR;split
 .have:=Zn1 false k b;dsimp only;rw[F8,Zj];lia
 .show Cg k b false
def Dl.l(d:Dl):Ln:= .sum d.x d.a d.s d.b
def chD(d:Dl)(p q:Nat):D:= .tup [.str "choice",d.a.d,.str d.s,d.b.d,.ref p,.ref q]
def RF(C:Nat->Prop)(M:Z3):FF->LD->LQ->Prop
 | .nil,c,a=>c=[]/\a=[]
 | .act d r,c,a=>∃e,c=d.l.d::e/\RF C M r e a
 | .fin _ r,c,a=>∃e,c=Ln.fin.d::e/\RF C M r e a
 | .lv n r,c,a=>∃e,c=(Ln.lve n).d::e/\RF C M r e a
 | .ag n r,c,a=>∃e,c=(Ln.agn n).d::e/\RF C M r e a
 | .ch d y n r,c,a=>∃p q f j e i h g,c=chD d p q::e/\a=(p::q::(i++h))++g/\Z2 M p=some f/\RF C M y f i/\Z2 M q=some j/\RF C M n j h/\RF C M r e g
 | .rd k b r,c,a=>∃p f e,c= .tup [.str "round",.int k,.ref p]::e/\C p/\Z2 M p=some f/\RTs C M (ofF b) f/\RF C M r e a
 | .pt k b r,c,a=>∃p f e,c= .tup [.str "part",.int k,.ref p]::e/\C p/\Z2 M p=some f/\RTs C M (ofF b) f/\RF C M r e a
def RF.keep(w:∀c,C c->C' c)(k:∀c,C c->M'[c]?=M[c]?)(s:FF):∀{i:LD} {os:LQ},(∀c∈os,M'[c]?=M[c]?)->RF C M s i os->RF C' M' s i os:=by
 induction s with
 | nil=>intro i os a h;show h
 | act d r g=>rintro i os a ⟨e,f,h⟩;show(e,f,g a h)
 | fin d r g=>rintro i os a ⟨e,f,h⟩;show(e,f,g a h)
 | lv n r g=>rintro i os a ⟨e,f,h⟩;show(e,f,g a h)
 | ag n r g=>rintro i os a ⟨e,f,h⟩;show(e,f,g a h)
 | ch d y n r B F E=>
  rintro i os a ⟨p,q,v,H,e,A,z,x,f,rfl,l,u,t,o,G⟩;show(p,q,v,H,e,A,z,x,f,rfl,?_,B (λc m=>a c (by simp[m])) u,?_,F (λc m=>a c (by simp[m])) o,E (λc m=>a c (by simp[m])) G)
  .rw[Z6 (a p 's')];show l
  .rw[Z6 (a q 's')];show t
 | rd j b r _ g=>rintro i os a ⟨p,v,e,f,l,u,t,o⟩;show(p,v,e,f,w p l,by rw[Z6 (k p l)];show u,t.keep w k,g a o)
 | pt j b r _ g=>rintro i os a ⟨p,v,e,f,l,u,t,o⟩;show(p,v,e,f,w p l,by rw[Z6 (k p l)];show u,t.keep w k,g a o)
def RF.app{t:FF}(g:RF C M t es ps)(s:FF):∀{c:LD} {os:LQ},RF C M s c os->RF C M (TD.app s t) (c++es) (os++ps):=by
 induction s with
 | nil=>rintro c os ⟨rfl,rfl⟩;show g
 | act d r a=>rintro c os ⟨e,rfl,h⟩;show(_,rfl,a h)
 | fin d r a=>rintro c os ⟨e,rfl,h⟩;show(_,rfl,a h)
 | lv n r a=>rintro c os ⟨e,rfl,h⟩;show(_,rfl,a h)
 | ag n r a=>rintro c os ⟨e,rfl,h⟩;show(_,rfl,a h)
 | ch d y n r _ _ v=>rintro c os ⟨p,q,m,x,e,u,o,z,rfl,rfl,l,k,i,f,w⟩;show(p,q,m,x,_,u,o,_,rfl,An ..,l,k,i,f,v w)
 | rd j b r _ a=>rintro c os ⟨p,m,e,rfl,l,k,i,f⟩;show(p,m,_,rfl,l,k,i,a f)
 | pt j b r _ a=>rintro c os ⟨p,m,e,rfl,l,k,i,f⟩;show(p,m,_,rfl,l,k,i,a f)
def RTs.up(b:∀c,C c->C' c){ts:List T}{a:LD}(h:RTs C M ts a):RTs C' M ts a:=h.keep b λ_ _=>rfl
def RF.rts(u:∀c,C c->C' c)(s:FF):∀{g:LD} {os:LQ},(∀c∈os,C' c)->RF C M s g os->RTs C' M (ofF s) g:=by
 induction s with
 | nil=>rintro g os _ ⟨rfl,_⟩;rfl
 | act d r f=>rintro g os a ⟨e,rfl,h⟩;show(_,_,rfl,(rfl,rfl,rfl),f a h)
 | fin d r f=>rintro g os a ⟨e,rfl,h⟩;show(_,_,rfl,(rfl,rfl,rfl),f a h)
 | lv n r f=>rintro g os a ⟨e,rfl,h⟩;show(_,_,rfl,(rfl,rfl,rfl),f a h)
 | ag n r f=>rintro g os a ⟨e,rfl,h⟩;show(_,_,rfl,(rfl,rfl,rfl),f a h)
 | ch d y n r v x w=>rintro g os a ⟨p,q,t,A,e,F,E,B,rfl,rfl,o,m,l,k,z⟩;show(_,_,rfl,(p,q,t,A,rfl,a p 's',a q 's',o,v (λc i=>a c (by simp[i])) m,l,x (λc i=>a c (by simp[i])) k),w (λc i=>a c (by simp[i])) z)
 | rd j b r _ f=>rintro g os a ⟨p,t,e,rfl,o,m,l,k⟩;show(_,_,rfl,(p,t,rfl,u p o,m,l.up u),f a k)
 | pt j b r _ f=>rintro g os a ⟨p,t,e,rfl,o,m,l,k⟩;show(_,_,rfl,(p,t,rfl,u p o,m,l.up u),f a k)
def Wj:FF->Bool
 | .nil=>false
 | .act _ r | .fin _ r | .lv _ r | .ag _ r | .ch _ _ _ r | .rd _ _ r | .pt _ _ r=>TD.isNil r
def RF.last(s:FF):∀{c:LD} {os:LQ},RF C M s c os->(s= .nil/\c=[]/\os=[])\/∃g t e d k o1,s=TD.app g t/\c=e++[d]/\os=k++o1/\Wj t=true/\RF C M g e k/\RF C M t [d] o1:=by
 have m:∀(f:FF->FF) (x:D) (o:LQ) (r:FF) (e:LD) (os:LQ),(∀u v,TD.app (f u) v=f (TD.app u v))->(TD.isNil r=true->Wj (f r)=true)->(∀r e H,RF C M r e H->RF C M (f r) (x::e) (o++H))->RF C M r e os->
   ((r= .nil/\e=[]/\os=[])\/∃g t w d k o1,r=TD.app g t/\e=w++[d]/\os=k++o1/\Wj t=true/\RF C M g w k/\RF C M t [d] o1)->
   ∃g t w d k o1,f r=TD.app g t/\x::e=w++[d]/\o++os=k++o1/\Wj t=true/\RF C M g w k/\RF C M t [d] o1:=by
  intro f x o r e os N O J h L;rcases L with⟨rfl,rfl,rfl⟩|⟨g,t,w,d,k,o1,rfl,rfl,rfl,i,g1,g2⟩
  .exact(.nil,f .nil,[],x,[],o,rfl,rfl,by simp,O rfl,(rfl,rfl),by have:=J .nil [] [] (rfl,rfl);rwa[Au] at this)
  .exact(f g,t,x::w,d,o++k,o1,(N _ _).symm,rfl,(An ..).symm,i,J _ _ _ g1,g2)
 induction s with
 | nil=>rintro c os ⟨rfl,rfl⟩;show .inl (rfl,rfl,rfl)
 | act d r a=>rintro c os ⟨e,rfl,h⟩;show .inr (m (.act d) _ [] r e os (λ_ _=>rfl) (λz=>z) (λ_ _ _ h=>(_,rfl,h)) h (a h))
 | fin d r a=>rintro c os ⟨e,rfl,h⟩;show .inr (m (.fin d) _ [] r e os (λ_ _=>rfl) (λz=>z) (λ_ _ _ h=>(_,rfl,h)) h (a h))
 | lv n r a=>rintro c os ⟨e,rfl,h⟩;show .inr (m (.lv n) _ [] r e os (λ_ _=>rfl) (λz=>z) (λ_ _ _ h=>(_,rfl,h)) h (a h))
 | ag n r a=>rintro c os ⟨e,rfl,h⟩;show .inr (m (.ag n) _ [] r e os (λ_ _=>rfl) (λz=>z) (λ_ _ _ h=>(_,rfl,h)) h (a h))
 | ch d y n r _ _ a=>rintro c os ⟨p,q,F,P,e,o1,G,K,rfl,rfl,E,B,A,l,I⟩;show .inr (m (.ch d y n) _ (p::q::(o1++G)) r e K (λ_ _=>rfl) (λz=>z) (λ_ _ _ h=>(p,q,F,P,_,o1,G,_,rfl,rfl,E,B,A,l,h)) I (a I))
 | rd j b r _ a=>rintro c os ⟨p,F,e,rfl,E,B,A,l⟩;show .inr (m (.rd j b) _ [] r e os (λ_ _=>rfl) (λz=>z) (λ_ _ _ h=>(p,F,_,rfl,E,B,A,h)) l (a l))
 | pt j b r _ a=>rintro c os ⟨p,F,e,rfl,E,B,A,l⟩;show .inr (m (.pt j b) _ [] r e os (λ_ _=>rfl) (λz=>z) (λ_ _ _ h=>(p,F,_,rfl,E,B,A,h)) l (a l))
def jF(w:Bool)(k:Nat):FF:=if w then .lv k .nil else .ag k .nil
def Zh9(w:Bool)(k:Nat)(h:TD.isNil (TD.cut w k u)=false)(s:FF):TD.cut w k (TD.app s u)=TD.app s (TD.cut w k u)/\TD.isNil (TD.cut w k (TD.app s u))=false:=by
 have e:TD.isNil u=false:=by cases u<;>first | rfl | cases h
 have c:∀s:FF,TD.isNil (TD.app s u)=false:=λs=>by cases s<;>first | rfl | show e
 induction s with
 | nil=>show(rfl,h)
 | act d r a=>show(by erw[TD.app,TD.cut];rw[a.1],rfl)
 | fin d r a=>show(by erw[TD.app,TD.cut];rw[a.1],rfl)
 | lv n r a=>erw[TD.app,TD.cut];rw[c,Bool.and_false,nb Bf9];show(by rw[a.1],rfl)
 | ag n r a=>erw[TD.app,TD.cut];rw[c,Bool.and_false,nb Bf9];show(by rw[a.1],rfl)
 | ch d y n r _ _ a=>erw[TD.app,TD.cut];rw[a.2,nb Bf9];show(by rw[a.1],rfl)
 | rd j b r _ a=>show(by erw[TD.app,TD.cut];rw[a.1],rfl)
 | pt j b r _ a=>show(by erw[TD.app,TD.cut];rw[a.1],rfl)
def isJF(w:Bool)(k:Nat):FF->Bool
 | .lv n _=>w&&decide (n=k)
 | .ag n _=> !w&&decide (n=k)
 | _=>false
def isCh:FF->Bool
 | .ch _ _ _ _=>true
 | _=>false
def cin(w:Bool)(k:Nat):FF->FF
 | .ch d y n r=> .ch d (TD.cut w k y) (TD.cut w k n) r
 | s=>s
def Y89{w:Bool}{k:Nat}{t:FF}(i:Wj t=true)(j:isJF w k t=false):TD.cut w k t=cin w k t/\TD.isNil (TD.cut w k t)=false:=by
 cases t with
 | nil=>cases i
 | act d r=>have:=TD.isNil_eq i;subst this;show(rfl,rfl)
 | fin d r=>have:=TD.isNil_eq i;subst this;show(rfl,rfl)
 | lv n r=>have:=TD.isNil_eq i;subst this;erw[TD.cut];rw[show(w&&decide (n=k))=false from j,Bool.false_and,nb Bf9];show(rfl,rfl)
 | ag n r=>have:=TD.isNil_eq i;subst this;erw[TD.cut];rw[show(!w&&decide (n=k))=false from j,Bool.false_and,nb Bf9];show(rfl,rfl)
 | ch d y n r=>have:=TD.isNil_eq i;subst this;show(rfl,rfl)
 | rd m b r=>have:=TD.isNil_eq i;subst this;show(rfl,rfl)
 | pt m b r=>have:=TD.isNil_eq i;subst this;show(rfl,rfl)
def Yc7{w:Bool}{k:Nat}{t:FF}(i:Wj t=true)(j:isJF w k t=true):t=jF w k:=by
 cases t with
 | lv n r=>have:=TD.isNil_eq i;subst this;have j:(w&&decide (n=k))=true:=j;rw[Bz9,decide_eq_true_eq] at j;rw[j.1,j.2];rfl
 | ag n r=>have:=TD.isNil_eq i;subst this;have j:(!w&&decide (n=k))=true:=j;rw[Bz9,decide_eq_true_eq,Bool.not_eq_true'] at j;rw[j.1,j.2];rfl
 | _=>cases j
def Qb(w:Bool)(k:Nat):TD.cut w k (jF w k)= .nil:=by cases w<;>simp[jF,TD.cut,TD.isNil]
def Y96(s:FF):TD.app s .nil=s:=by induction s<;>simp_all [TD.app]
def Gj(s t u:FF):TD.app (TD.app s t) u=TD.app s (TD.app t u):=by induction s<;>simp_all [TD.app]
def Y76{w:Bool}{k:Nat}{t:FF}(i:Wj t=true):TD.cut w k (TD.app t (jF w k))=cin w k t/\TD.isNil (TD.cut w k (TD.app t (jF w k)))=false:=by
 have a:TD.isNil (jF w k)=false:=by cases w<;>rfl
 cases t with
 | nil=>cases i
 | act d r=>have:=TD.isNil_eq i;subst this;erw[TD.app,TD.cut,Qb];show(rfl,rfl)
 | fin d r=>have:=TD.isNil_eq i;subst this;erw[TD.app,TD.cut,Qb];show(rfl,rfl)
 | lv n r=>have:=TD.isNil_eq i;subst this;erw[TD.app,TD.cut,Qb];rw[a,Bool.and_false,nb Bf9];show(rfl,rfl)
 | ag n r=>have:=TD.isNil_eq i;subst this;erw[TD.app,TD.cut,Qb];rw[a,Bool.and_false,nb Bf9];show(rfl,rfl)
 | ch d y n r=>have:=TD.isNil_eq i;subst this;erw[TD.app,TD.cut,Qb];show(rfl,rfl)
 | rd m b r=>have:=TD.isNil_eq i;subst this;erw[TD.app,TD.cut,Qb];show(rfl,rfl)
 | pt m b r=>have:=TD.isNil_eq i;subst this;erw[TD.app,TD.cut,Qb];show(rfl,rfl)
def Opd.p:Opd->PyData
 | .nm x=> .str x
 | .no i=> .int i
def datF:FF->List PyData
 | .nil=>[]
 | .act d r=> .tuple [.str "sum",.str d.x,d.a.p,.str d.s,d.b.p]::datF r
 | .fin _ r=> .tuple [.str "end"]::datF r
 | .lv n r=> .tuple [.str "leave",.int n]::datF r
 | .ag n r=> .tuple [.str "again",.int n]::datF r
 | .ch d y n r=> .tuple [.str "choice",d.a.p,.str d.s,d.b.p,.list (datF y),.list (datF n)]::datF r
 | .rd k b r=> .tuple [.str "round",.int k,.list (datF b)]::datF r
 | .pt k b r=> .tuple [.str "part",.int k,.list (datF b)]::datF r
def Opd.pd(o:Opd):PD M o.p o.d:=by cases o<;>(unfold Opd.p Opd.d PD;rfl)
def pd_s(x:Str):PD M (.str x) (.str x):=by ext PD;rfl
def pd_i(x:Int):PD M (.int x) (.int x):=by ext PD;rfl
def pd_t{a:LD}(h:PDs M xs a):PD M (.tuple xs) (.tup a):=by ext PD;show(a,rfl,h)
def pd_l{a:LD}{n:Nat}(e:Z2 M n=some a)(h:PDs M xs a):PD M (.list xs) (.ref n):=by ext PD;show(n,a,rfl,Z0 e,h)
def pd_c{x:PyData}{d:D}{a:LD}(h:PD M x d)(g:PDs M xs a):PDs M (x::xs) (d::a):=by ext PDs;show(d,a,rfl,h,g)
def pd_n:PDs M [] []:=by ext PDs;rfl
def pdF(s:FF):∀{f:LD},RTs C M (ofF s) f->PDs M (datF s) f:=by
 induction s with
 | nil=>intro f h;rw[show f=[] from h];show pd_n
 | act d r c=>rintro f ⟨x,e,rfl,⟨rfl,_⟩,h⟩;show pd_c (pd_t (pd_c (pd_s _) (pd_c (pd_s _) (pd_c d.a.pd (pd_c (pd_s _) (pd_c d.b.pd pd_n)))))) (c h)
 | fin d r c=>rintro f ⟨x,e,rfl,⟨rfl,_⟩,h⟩;show pd_c (pd_t (pd_c (pd_s _) pd_n)) (c h)
 | lv n r c=>rintro f ⟨x,e,rfl,⟨rfl,_⟩,h⟩;show pd_c (pd_t (pd_c (pd_s _) (pd_c (pd_i _) pd_n))) (c h)
 | ag n r c=>rintro f ⟨x,e,rfl,⟨rfl,_⟩,h⟩;show pd_c (pd_t (pd_c (pd_s _) (pd_c (pd_i _) pd_n))) (c h)
 | ch d y n r m o c=>rintro f ⟨x,e,rfl,⟨p,q,l,v,rfl,_,_,i,g,u,t⟩,h⟩;show pd_c (pd_t (pd_c (pd_s _) (pd_c d.a.pd (pd_c (pd_s _) (pd_c d.b.pd (pd_c (pd_l i (m g)) (pd_c (pd_l u (o t)) pd_n))))))) (c h)
 | rd k b r j c=>rintro f ⟨x,e,rfl,⟨p,l,rfl,_,i,g⟩,h⟩;show pd_c (pd_t (pd_c (pd_s _) (pd_c (pd_i _) (pd_c (pd_l i (j g)) pd_n)))) (c h)
 | pt k b r j c=>rintro f ⟨x,e,rfl,⟨p,l,rfl,_,i,g⟩,h⟩;show pd_c (pd_t (pd_c (pd_s _) (pd_c (pd_i _) (pd_c (pd_l i (j g)) pd_n)))) (c h)
structure Dl.ok(d:Dl):Prop where
 x:Db (.str d.x)=true
 a:Db d.a.p=true
 s:Db (.str d.s)=true
 b:Db d.b.p=true
def okF(s:FF):Prop:=∀d∈TD.acts s,d.ok
def Je(l:List PyData):Db (.tuple l)=He l:=by rw[Db]
def Z55(l:List PyData):Db (.list l)=He l:=by rw[Db]
def Yj{x:PyData}{l:List PyData}(h:Db x=true)(g:He l=true):He (x::l)=true:=by rw[He,h,g];rfl
def Qr:He []=true:=by rw[He]
def Ew(i:Int):Db (.int i)=true:=rfl
def layF(s:FF):okF s->He (datF s)=true:=by
 have w:∀x∈["sum","end","leave","again","choice","round","part"],Db (.str x)=true:='k';induction s with
 | nil=>intro _;show Qr
 | act d r e=>intro h;have o:=h d (by simp[TD.acts]);show Yj (by rw[Je];show Yj (w _ 'k') (Yj o.x (Yj o.a (Yj o.s (Yj o.b Qr))))) (e λd c=>h d (by simp[TD.acts,c]))
 | fin d r e=>intro h;show Yj (by rw[Je];show Yj (w _ 'k') Qr) (e λd c=>h d (by simp[TD.acts,c]))
 | lv n r e=>intro h;show Yj (by rw[Je];show Yj (w _ 'k') (Yj (Ew _) Qr)) (e h)
 | ag n r e=>intro h;show Yj (by rw[Je];show Yj (w _ 'k') (Yj (Ew _) Qr)) (e h)
 | ch d y n r g i e=>intro h;have o:=h d (by simp[TD.acts]);show Yj (by rw[Je];show Yj (w _ 'k') (Yj o.a (Yj o.s (Yj o.b (Yj (by rw[Z55];show g λd c=>h d (by simp[TD.acts,c])) (Yj (by rw[Z55];show i λd c=>h d (by simp[TD.acts,c])) Qr)))))) (e λd c=>h d (by simp[TD.acts,c]))
 | rd k b r f e=>intro h;show Yj (by rw[Je];show Yj (w _ 'k') (Yj (Ew _) (Yj (by rw[Z55];show f λd c=>h d (by simp[TD.acts,c])) Qr))) (e λd c=>h d (by simp[TD.acts,c]))
 | pt k b r f e=>intro h;show Yj (by rw[Je];show Yj (w _ 'k') (Yj (Ew _) (Yj (by rw[Z55];show f λd c=>h d (by simp[TD.acts,c])) Qr))) (e λd c=>h d (by simp[TD.acts,c]))
def jP(w:Bool)(k:Nat):PyData:= .tuple [.str (if w then "leave" else "again"),.int k]
def ev_c(x y:PyData)(xs ys:List PyData):Ma (x::xs) (y::ys)=(Ij x y&&Ma xs ys):=by rw[Ma]
def ev_t(xs ys:List PyData):Ij (.tuple xs) (.tuple ys)=Ma xs ys:=by rw[Ij]
def ev_s(x y:Str):Ij (.str x) (.str y)=(x==y):=by rw[Ij]
def ev_i(x y:Int):Ij (.int x) (.int y)=(x==y):=by rw[Ij]
def ev_n:Ma [] []=true:=by rw[Ma]
def ev_j{h:Str}{w:Bool}{k:Nat}(b:(h==("leave":Str))=false)(a:(h==("again":Str))=false):Ij (.tuple (.str h::xs)) (jP w k)=false:=by
 ext jP;rw[ev_t,ev_c,ev_s];cases w
 .rw[nb Bf9,a];rfl
 .rw[nc rfl,b];rfl
def ev_g{v w:Bool}{k n:Nat}:Ij (.tuple [.str (if v then "leave" else "again"),.int n]) (jP w k)=((v==w)&&decide (n=k)):=by ext jP;rw[ev_t,ev_c,ev_s,ev_c,ev_i,ev_n,Bool.and_true,show((n:Int)==k)=decide (n=k) from Bool.eq_iff_iff.mpr (by rw[beq_iff_eq,decide_eq_true_eq];lia)];congr 1;cases v<;>cases w<;>decide+kernel
def Yh5{t:FF}{d:D}{w:Bool}{k:Nat}(i:Wj t=true)(h:RF C M t [d] o)(v:okF t)(q:B (isJF w k t)):eqD M d (jl w k).d B:=by
 have g:=pdF t (h.rts (C':=λ_=>True) (λ_ _=>trivial) t λ_ _=>trivial);have l:=layF t v;have s:PD M (jP w k) (jl w k).d:=by cases w<;>show pd_t (pd_c (pd_s _) (pd_c (pd_i _) pd_n))
 have z:Db (jP w k)=true:=by cases w<;>(ext jP;rw[Je];show Yj 'k' (Yj (Ew _) Qr))
 have G:Hb (jP w k)<=60:=by simp[jP,Hb,Go]
 have f:∀x:PyData,datF t=[x]->(∃j,d= .tup j)->Ij x (jP w k)=isJF w k t->eqD M d (jl w k).d B:=by
  rintro x E ⟨j,rfl⟩ F;rw[E] at g l;ext g PDs;let(N,r,c,A,K):=g;let(rfl,_):=De c;rw[He,Bz9] at l;have:(jl w (k:Int)).d= .tup [.str (if w then "leave" else "again"),.int k]:=by cases w<;>rfl
  rw[this] at s |-;show .inl (x,jP w k,A,s,l.1,z,nh (Nat.min_le_right _ _) G,by rw[F];show q)
 cases t with
 | nil=>cases i
 | act a r=>have:=TD.isNil_eq i;subst this;let(e,c,_):=h;show f _ rfl (_,(De c).1) (ev_j 'k' 'k')
 | fin a r=>have:=TD.isNil_eq i;subst this;let(e,c,_):=h;show f _ rfl (_,(De c).1) (ev_j 'k' 'k')
 | lv n r=>have:=TD.isNil_eq i;subst this;let(e,c,_):=h;show f _ rfl (_,(De c).1) (by rw[show PyData.str "leave"= .str (if true then "leave" else "again") from rfl,ev_g];cases w<;>rfl)
 | ag n r=>have:=TD.isNil_eq i;subst this;let(e,c,_):=h;show f _ rfl (_,(De c).1) (by rw[show PyData.str "again"= .str (if false then "leave" else "again") from rfl,ev_g];cases w<;>rfl)
 | ch a y n r=>have:=TD.isNil_eq i;subst this;let(p,q,u,L,e,J,I,H,c,_):=h;show f _ rfl (_,(De c).1) (ev_j 'k' 'k')
 | rd m b r=>have:=TD.isNil_eq i;subst this;let(p,u,e,c,_):=h;show f _ rfl (_,(De c).1) (ev_j 'k' 'k')
 | pt m b r=>have:=TD.isNil_eq i;subst this;let(p,u,e,c,_):=h;show f _ rfl (_,(De c).1) (ev_j 'k' 'k')
structure Pd where
 c:Nat
 t:FF
 o:LQ
def Pd.foot(p:Pd):LQ:=p.c::p.o
def Pd.has(C:Nat->Prop)(M:Z3)(p:Pd)(t:FF):Prop:=∃a,Z2 M p.c=some a/\RF C M t a p.o
def Pd.has.keep{p:Pd}{t:FF}(h:p.has C M t)(b:∀c,C c->M'[c]?=M[c]?)(a:∀x∈p.foot,M'[x]?=M[x]?):p.has C M' t:=by let(g,f,e):=h;show(g,by rw[Z6 (a _ Ad)];show f,e.keep (λ_ z=>z) b t λc d=>a c (Ae _ d))
abbrev feet(ps:List Pd):LQ:=ps.flatMap Pd.foot
structure CI(C:Nat->Prop)(w:Bool)(k:Nat)(M0 M:Z3)(p0:Pd)(ps:List Pd):Prop where
 nd:(feet ps).Nodup
 sb:∀x∈feet ps,x∈p0.foot
 h:∀p∈ps,p.has C M p.t
 ok:∀p∈ps,okF p.t
 kp:∀x,x<Lg M0->x∉p0.foot->M[x]?=M0[x]?
 fin:∀M':Z3,(∀x,x<Lg M0->x∉feet ps->M'[x]?=M[x]?)->(∀p∈ps,p.has C M' (TD.cut w k p.t))->p0.has C M' (TD.cut w k p0.t)
structure Cs(C:Nat->Prop)(M0:Z3)(p0:Pd):Prop where
 l:∀x∈p0.foot,x<Lg M0/\¬C x
 c:∀x,C x->x<Lg M0
section
variable{C:Nat->Prop}{w:Bool}{k:Nat}{M0 M M1:Z3}{p0 p:Pd}{ps:List Pd}
def Zp(ps:List Pd)(p:Pd):feet (ps++[p])=feet ps++p.foot:=by simp[feet]
def CI.one(I:CI C w k M0 M p0 (ps++[p]))(S:Cs C M0 p0)(e:∀x,x<Lg M0->x≠p.c->M1[x]?=M[x]?)(h:p.has C M1 (TD.cut w k p.t)):CI C w k M0 M1 p0 ps:=by
 have j:=I.nd;rw[Zp,As] at j;let(s,A,m):=j;have u:∀x∈feet ps,x<Lg M0:=λx a=>(S.l x (I.sb x (by rw[Zp];simp[a]))).1;have o:∀x∈feet ps,x≠p.c:=λx a z=>m x a _ Ad z;have g:∀x∈p.foot,x∈p0.foot:=λx a=>I.sb x (by rw[Zp];simp[a]);have r:∀c,C c->c≠p.c:=λc d z=>(S.l _ (g _ Ad)).2 (z ▸ d);show(s,λx a=>I.sb x (by rw[Zp];simp[a]),λq b=>?_,λq b=>I.ok q (by simp[b]),λx a f=>?_,λy i v=>?_)
 .have n:∀x∈q.foot,x∈feet ps:=λx a=>Ib.mpr (q,b,a);show(I.h q (by simp[b])).keep (λc d=>e c (S.c c d) (r c d)) λx a=>e x (u x (n x a)) (o x (n x a))
 .rw[e x a λz=>f (g _ (by rw[z];show Ad))];show I.kp x a f
 .refine I.fin y (λx a f=>?_) λq b=>?_
  .rw[Zp] at f;rw[i x a λz=>f (by simp[z]),e x a λz=>f (by rw[z];show Bk _ Ad)]
  .rcases Am.mp b with b|b
   .show v q b
   .cases Aq.mp b;show h.keep (λc d=>i c (S.c c d) λz=>(S.l c (I.sb c (by rw[Zp];simp[z]))).2 d) λx a=>i x (S.l x (g x a)).1 λz=>m x z x a rfl
def CI.two(I:CI C w k M0 M p0 (ps++[p]))(S:Cs C M0 p0)(e:∀x,x<Lg M0->x≠p.c->M1[x]?=M[x]?){a b:Pd}(D:p.o=o++(a.c::b.c::(a.o++b.o)))(Q:a.has C M1 a.t)(P:b.has C M1 b.t)(G:okF a.t)(F:okF b.t)
  (h:∀M':Z3,(∀x,x<Lg M0->x∉feet (ps++[a,b])->M'[x]?=M1[x]?)->a.has C M' (TD.cut w k a.t)->b.has C M' (TD.cut w k b.t)->p.has C M' (TD.cut w k p.t)):CI C w k M0 M1 p0 (ps++[a,b]):=by
 have j:=I.nd;have u:feet (ps++[a,b])=feet ps++(a.foot++b.foot):=by simp[feet]
 have v:(a.foot++b.foot).Perm (a.c::b.c::(a.o++b.o)):=by show(a.c::a.o++b.c::b.o).Perm _;show(List.perm_middle (l₁:=a.o)).cons a.c
 have g:∀x∈a.foot++b.foot,x∈p.foot/\x≠p.c:=λx d=>by
  have:=v.mem_iff.mp d;have m:x∈p.o:=by rw[D];show Bk _ this
  show(Ae _ m,λz=>?_);rw[Zp,As] at j;show(Ao.mp j.2.1).1 (z ▸ m)
 rw[Zp,As] at j;let(L,K,A):=j;have N:∀x∈feet ps,x<Lg M0:=λx d=>(S.l x (I.sb x (by rw[Zp];simp[d]))).1;have H:∀x∈feet ps,x≠p.c:=λx d z=>A x d _ Ad z;have r:∀x∈p.foot,x∈p0.foot:=λx d=>I.sb x (by rw[Zp];simp[d]);have J:∀c,C c->c≠p.c:=λc n z=>(S.l _ (r _ Ad)).2 (z ▸ n);show(?_,λx d=>?_,λq f=>?_,λq f=>?_,λx d i=>?_,λM' E s=>?_)
 .rw[u,As];show(L,v.nodup_iff.mpr ?_,λx d y O=>A x d y (g y O).1);have:=(Ao.mp K).2;rw[D,As] at this;show this.2.1
 .rw[u] at d;rcases Am.mp d with d|d
  .show I.sb x (by rw[Zp];simp[d])
  .show r x (g x d).1
 .rcases Am.mp f with f|f
  .have B:∀x∈q.foot,x∈feet ps:=λx d=>Ib.mpr (q,f,d);show(I.h q (by simp[f])).keep (λc n=>e c (S.c c n) (J c n)) λx d=>e x (N x (B x d)) (H x (B x d))
  .simp only[Ab,Ia,or_false] at f;rcases f with rfl|rfl
   .show Q
   .show P
 .rcases Am.mp f with f|f
  .show I.ok q (by simp[f])
  .simp only[Ab,Ia,or_false] at f;rcases f with rfl|rfl
   .show G
   .show F
 .rw[e x d λz=>i (r _ (by rw[z];show Ad))];show I.kp x d i
 .refine I.fin M' (λx d i=>?_) λq f=>?_
  .rw[Zp] at i;rw[E x d λz=>?_,e x d λz=>i (by rw[z];show Bk _ Ad)];rw[u] at z;rcases Am.mp z with z|z
   .show i (by simp[z])
   .show i (Bk _ (g x z).1)
  .rcases Am.mp f with f|f
   .show s q (by simp[f])
   .cases Aq.mp f;show h M' E (s a 's') (s b 's')
end
def Td:DSp:=λe M Q _=>∃(C:Nat->Prop) (s:FF) (c:Nat) (a:LQ) (w:Bool) (k:Nat),e=[.ref c,(jl w k).d]/\Pd.has C M (c,s,a) s/\(c::a).Nodup/\Cs C M (c,s,a)/\okF s/\nl s<=400/\
 ∀b,Ks (λx=>x∈c::a) M b->Pd.has C b (c,s,a) (TD.cut w k s)->Q .non b
def mes(ps:List Pd):Nat:=(ps.map λp=>nl p.t+1).sum
def CV(C:Nat->Prop)(w:Bool)(k:Nat)(M:Z3)(p0:Pd)(m:Nat)(b:DEnv)(M':Z3):Prop:=∃(a:List Pd) (e:Option D),b=[↑p0.c,some (jl w k).d,↑(Lg M),e]/\(Lg M)<Lg M'/\CI C w k M M' p0 a/\Z2 M' (Lg M)=some (a.map λp=> .ref p.c)/\m=mes a/\mes a<=401
def Zy6(ps:List Pd)(p:Pd):mes (ps++[p])=mes ps+(nl p.t+1):=by simp[mes]
def Ya0(ps:List Pd):Lg ps<=mes ps:=by
 induction ps with
 | nil=>show na _
 | cons p ps a=>erw[mes,Aj,Iw,Af] at a |-;lia
def Ym5{t:FF}{d:D}(i:Wj t=true)(h:RF C M t [d] o):∃x r,d= .tup (.str x::r)/\(isCh t=false->¬x="choice"):=by
 cases t with
 | nil=>cases i
 | act a r=>let(e,c,_):=h;show(_,_,(De c).1,λ_=>by decide+kernel)
 | fin a r=>let(e,c,_):=h;show(_,_,(De c).1,λ_=>by decide+kernel)
 | lv n r=>let(e,c,_):=h;show(_,_,(De c).1,λ_=>by decide+kernel)
 | ag n r=>let(e,c,_):=h;show(_,_,(De c).1,λ_=>by decide+kernel)
 | ch a y n r=>let(p,q,f,l,e,k,j,g,c,_):=h;show(_,_,(De c).1,λz=>by cases z)
 | rd m b r=>let(p,f,e,c,_):=h;show(_,_,(De c).1,λ_=>by decide+kernel)
 | pt m b r=>let(p,f,e,c,_):=h;show(_,_,(De c).1,λ_=>by decide+kernel)
def Yk4{w:Bool}{k:Nat}(h:isCh t=false):cin w k t=t:=by cases t<;>first | rfl | cases h
section
variable{K:Aa}{Γ:List DSp}{G:LD}
def Yu3(c:isCh t=true)(i:Wj t=true):∃d y n,t= .ch d y n .nil:=by cases t<;>cases c;show(_,_,_,by rw[TD.isNil_eq i])
def Yf4{d:Dl}{p q:Nat}{x:Str}(h:[.tup (.str x::xs)]=chD d p q::e):x="choice"/\xs=[d.a.d,.str d.s,d.b.d,.ref p,.ref q]:=by cases h;show(rfl,rfl)
def ct1{w:Bool}{k:Nat}{p0 p:Pd}(I:CI C w k M M' p0 (ps++[p]))(N:Cs C M p0)(hm:mes (ps++[p])<=401)(hl:Lg M<Lg r)(e:∀x,x<Lg M->x≠p.c->r[x]?=M'[x]?)(eL:Z2 r (Lg M)=some (ps.map λp=> .ref p.c))(f:Z2 r p.c=some ds)
  (hu:(ds=[]/\p.o=[]/\TD.cut w k p.t= .nil)\/∃O t e d o0 o1,ds=e++[d]/\p.o=o0++o1/\Wj t=true/\RF C r O e o0/\RF C r t [d] o1/\TD.cut w k p.t=TD.app O (cin w k t)/\okF t/\nl t<=nl p.t)
  (Rn:∀S J,(∃m',m'<mes (ps++[p])/\CV C w k M p0 m' S J)->R.nx S J):tss (K,Γ,G) noX Xo R [↑p0.c,some (jl w k).d,↑(Lg M),↑p.c] r:=by
 have ms:=Zy6 ps p;have nd:=I.nd;rw[Zp,As] at nd;let(n1,n2,n3):=nd;have Q:∀x∈p.foot,x<Lg M/\¬C x:=λx g=>N.l x (I.sb x (by rw[Zp];simp[g]));have pc:=Q _ Ad;have V:∀x,x<Lg M->(r++[Cell.lst []])[x]?=r[x]?:=λx g=>Y0 'o';have e':∀x,x<Lg M->x≠p.c->(r++[Cell.lst []])[x]?=M'[x]?:=λx g E=>(V x g).trans (e x g E);have A:p.has C r (TD.cut w k p.t)->R.nx [↑p0.c,some (jl w k).d,↑(Lg M),↑p.c] (r++[Cell.lst []]):=λh=>
  Rn _ _ (_,(by lia:mes ps<_),ps,_,rfl,by rw[Ac];lia,I.one N e' (h.keep (λc f=>V c (N.c c f)) λx g=>V x (Q x g).1),Z4 eL,rfl,'o')
 delta Xo;rfl';show(nj _,Ti (Zc (Z0 f)) (Zh _ _ []) ?_);rcases hu with⟨rfl,B,q⟩|⟨O,t,es,d,o0,o1,rfl,B,i,r0,W,q,ok,E⟩
 .simp only[Ly,Bool.true_eq_false,if_false];show A ([],f,by rw[q,B];show(rfl,rfl))
 .rw[show(es++[d]).isEmpty=false by simp,nc rfl];let(x,xs,rfl,g):=Ym5 i W;show Xe (Zc (Z0 f)) (Wn _ _) ?_;rfl';cases Y:isCh t with
  | false=>rw[nb (g Y)];show A (_,f,?_);rw[q,Yk4 Y,B];show W.app O r0
  | true=>
   clear A g;let(H,y,n,et):=Yu3 Y i;rw[et] at q E ok W;clear i Y et;let(m,j,d1,d2,e3,v,u,o3,ed,eo,h1,h2,h3,h4,h5):=W;let(ex,U):=Yf4 ed;rw[nc ex];rw[ex,U] at f;rw[eo,h5.2,Au] at B;clear ex U eo ed h5;show(Ze (Zc (Z0 eL)),Xe (Zc (Z0 f)) (Wn _ _) ?_);have T:=R6 H y n .nil;rw[Zj] at T;have y0:nl y+nl n+2<=nl (.ch H y n .nil):=by
    rw[T];split
    .rename_i z;rw[TD.isNil_eq z,Zj];lia
    .lia
   have mm:mes (ps++[((m,y,v):Pd),(j,n,u)])=mes ps+(nl y+1+(nl n+1)):=by simp[mes]
   have ml:=Ya0 ps;rfl';rw[show cutD [D.str "choice",H.a.d,.str H.s,H.b.d,.ref m,.ref j] (some 4) none=[.ref m,.ref j] from rfl];show('k',_,Z4 eL,Z1 (by rw[Al];change _+2<=_;lia),?_);obtain⟨J,F⟩:∃J:Z3,J=Ha (r++[Cell.lst []]) (Lg M) (.lst (ps.map (λp=>D.ref p.c)++[.ref m,.ref j])):=(_,rfl);rw[<-F];have L:∀x,x<Lg M->J[x]?=r[x]?:=λx g=>by rw[F,Yc 'o'];show V x g
   have l2:Lg J=Lg r+1:=by rw[F,Dm,Ac];rfl
   have f2:Z2 J (Lg M)=some (ps.map (λp=>D.ref p.c)++[.ref m,.ref j]):=by rw[F];show Zd (by rw[Ac];lia)
   have P:∀x,x∈m::j::(v++u)->x∈p.o:=λx g=>by rw[B];show Bk _ g
   have X:∀x∈p.o,x<Lg M:=λx g=>(Q x (Ae _ g)).1;have kC:∀c,C c->J[c]?=r[c]?:=λc f=>L c (N.c c f);have n0:=(Ao.mp n2);have nf:∀x∈p.foot,x∉m::j::(v++u)->x∉feet (ps++[((m,y,v):Pd),(j,n,u)]):=λx g E z=>by
    rw[show feet (ps++[((m,y,v):Pd),(j,n,u)])=feet ps++(m::v++j::u) by simp[feet,Pd.foot]] at z;rcases Am.mp z with z|z
    .show n3 x z x g rfl
    .show E (by simp at z |-;rcases z with z|z|z|z<;>simp[z])
   have nC:∀c,C c->c∉feet (ps++[((m,y,v):Pd),(j,n,u)]):=λc f z=>by
    rw[show feet (ps++[((m,y,v):Pd),(j,n,u)])=feet ps++(m::v++j::u) by simp[feet,Pd.foot]] at z;rcases Am.mp z with z|z
    .exact(N.l c (I.sb c (by rw[Zp];simp[z]))).2 f
    .exact(Q c (Ae _ (P c (by simp at z |-;rcases z with z|z|z|z<;>simp[z])))).2 f
   have Z:okF y:=λd hd=>ok d (by simp[TD.acts,hd]);have z0:okF n:=λd hd=>ok d (by simp[TD.acts,hd]);show Rn _ _ (_,(by lia:mes (ps++[((m,y,v):Pd),(j,n,u)])<_),ps++[(m,y,v),(j,n,u)],_,rfl,'o',I.two N (λx g E=>(L x g).trans (e x g E)) (a:=(m,y,v)) (b:=(j,n,u)) B (d1,?_,?_) (d2,?_,?_) Z z0 λM3 e3 ha hb=>?_,?_,rfl,'o')
   .rw[Z6 (L m (X m (P m 's')))];show h1
   .show h2.keep (λ_ z=>z) kC y λc f=>L c (X c (P c (by simp at f |-;simp[f])))
   .rw[Z6 (L j (X j (P j 's')))];show h3
   .show h4.keep (λ_ z=>z) kC n λc f=>L c (X c (P c (by simp at f |-;simp[f])))
   .have kk:∀x∈p.foot,x∉m::j::(v++u)->M3[x]?=r[x]?:=λx g E=>(e3 x (Q x g).1 (nf x g E)).trans (L x (Q x g).1);have n4:=n0.2;rw[B,As] at n4;show(es++[D.tup [.str "choice",H.a.d,.str H.s,H.b.d,.ref m,.ref j]],?_,?_)
    .rw[Z6 (kk _ Ad λz=>n0.1 (P _ z))];show f
    .rw[q,B];let(da,a1,a2):=ha;let(db,b1,b2):=hb;show RF.app (t:= .ch H (TD.cut w k y) (TD.cut w k n) .nil) (m,j,da,db,[],v,u,[],rfl,by simp,a1,a2,b1,b2,rfl,rfl) O (r0.keep (λ_ z=>z) (λc f=>(e3 c (N.c c f) (nC c f)).trans (kC c f)) O λc f=>kk c (Ae _ (by rw[B];simp[f])) λz=>n4.2.2 c f c z rfl)
   .rw[f2,Dc];rfl
def Js(h:okF (TD.app s t)):okF s/\okF t:=(λd a=>h d (by rw[TD.acts_app];simp[a]),λd a=>h d (by rw[TD.acts_app];simp[a]))
def Cu:Rd K Γ G Td Pl Pn:=by
 rintro ds M Q Z ⟨C,s,c,H,w,k,rfl,hh,nd,A,ok,hz,q⟩;delta Pl Pn;generalize hw:S.while_ _ _=wl;rfl';subst hw;show(Z1 'd',(CV C w k M (c,s,H),?_,?_))
 .refine(_,[(c,s,H)],none,rfl,by simp,(by simpa[feet,Pd.foot] using nd,λx a=>by simpa[feet] using a,λp J=>?_,λp J=>?_,λx a _=>Y0 a,λr _ h=>h _ Ad),Z5 _ _ _,rfl,by simp[mes];lia)
  .cases Aq.mp J;show hh.keep (λx a=>Y0 (A.c x a)) λx a=>Y0 (A.l x a).1
  .cases Aq.mp J;show ok
 rintro m σ r ⟨E,t3,rfl,hl,I,R,rfl,X⟩;rfl';show(Z1 'd',Ti (Zc (Z0 R)) (Zh _ _ []) ?_);rcases List.eq_nil_or_concat E with rfl|⟨E,p,rfl⟩
 .rw[Dz,Ly,nb 'd'];have up:∀x,x<Lg M->(r++[Cell.lst []])[x]?=r[x]?:=λx a=>Y0 'o';show q _ (λx W a=>(up x a).trans (I.kp x a W),by rw[Ac];lia) (I.fin _ (λx a _=>up x a) λp J=>by cases J)
 rw[List.concat_eq_append] at *;rw[Dc] at R |-;rw[show(E.map (λp=>D.ref p.c)++[p].map λp=>D.ref p.c).isEmpty=false by simp];delta Se;generalize L:(Ss.cons (S.ite _ _ _) _)=B;rfl';show(Ze (Z0 (Z4 R)),_,.ref p.c,Z4 R,by simp,?_);rw[List.map_singleton,Kr];subst L;generalize L:Xo=B;have pf:∀x∈p.foot,x<Lg M/\¬C x:=λx a=>A.l x (I.sb x (by rw[Zp];simp[a]));have pc:=pf _ Ad;let(dp,p1,p2):=I.h p 's';have f:=I.ok p 's';obtain⟨b,g⟩:∃b:Z3,b=Ha (r++[Cell.lst []]) (Lg M) (.lst (E.map λp=>D.ref p.c)):=(_,rfl);rw[<-g];have e1:∀x,x<Lg M->b[x]?=r[x]?:=λx a=>by rw[g,Yc 'o'];show Y0 'o'
 have l1:Lg b=Lg r+1:=by rw[g,Dm,Ac];rfl
 have f1:Z2 b (Lg M)=some (E.map λp=>D.ref p.c):=by rw[g];show Zd (by rw[Ac];lia)
 rfl';have e:Z2 (b++[.lst []]) p.c=some dp:=Z4 (by rw[Z6 (e1 _ pc.1)];show p1);have O:∀x,x<Lg M->(b++[Cell.lst []])[x]?=r[x]?:=λx a=>(Y0 'o').trans (e1 x a);have kC:∀c,C c->(b++[Cell.lst []])[c]?=r[c]?:=λc y=>O c (A.c c y);have lo:∀x∈p.o,x<Lg M:=λx a=>(pf x (Ae _ a)).1;have U:RF C (b++[Cell.lst []]) p.t dp p.o:=p2.keep (λ_ z=>z) kC p.t λc y=>O c (lo c y);show(nj _,Ti (Z0 e) (Zh _ _ []) ?_);have v:Lg M< (b++[Cell.lst []]).length:=by rw[Ac];lia
 rcases U.last p.t with⟨j,rfl,u⟩|⟨F,t,n,d,o0,o1,j,rfl,u,i,r0,P⟩
 .rw[Ly,nb 'd',nb 'd'];subst L;show ct1 (p0:=(c,s,H)) (p:=p) I A X v (λx a _=>O x a) (Z4 f1) e (.inl (rfl,u,by rw[j];rfl)) λ_ _ h=>h
 .rw[show(n++[d]).isEmpty=false by simp,nc rfl];show Xe (Z0 e) (Wn _ _) ?_;rw[j] at f;show Yh5 i P (Js f).2 ?_;cases hj:isJF w k t with
  | false=>rw[nb Bf9];subst L;let(c1,c2):=Y89 i hj;show ct1 (p0:=(c,s,H)) (p:=p) I A X v (λx a _=>O x a) (Z4 f1) e (.inr (F,t,n,d,o0,o1,rfl,u,i,r0,P,?_,(Js f).2,by rw[j,Xx];lia)) λ_ _ h=>h;rw[j,(Zh9 w k c2 F).1,c1]
  | true=>
   rw[nc rfl];show(Ze (Z0 e),_,d,e,by simp,?_);rw[Kr];subst L;have ej:=Yc7 i hj;subst ej;have V:o1=[]:=by
    cases w
    .let(_,_,_,z):=P;show z
    .let(_,_,_,z):=P;show z
   subst V;rw[Au] at u;have n2:=I.nd;rw[Zp,As] at n2;have n0:=Ao.mp n2.2.1;have T:∀x,x≠p.c->(Ha (b++[Cell.lst []]) p.c (.lst n))[x]?=(b++[Cell.lst []])[x]?:=λx a=>Yc (Av a);have q3:Z2 (Ha (b++[Cell.lst []]) p.c (.lst n)) p.c=some n:=Zd (by rw[Ac];lia);have r3:RF C (Ha (b++[Cell.lst []]) p.c (.lst n)) F n o0:=r0.keep (λ_ z=>z) (λc y=>T c λz=>pc.2 (z ▸ y)) F λc y=>T c λz=>n0.1 (by rw[u];show z ▸ y);have f3:Z2 (Ha (b++[Cell.lst []]) p.c (.lst n)) (Lg M)=some (E.map λp=>D.ref p.c):=by rw[Z6 (T _ 'o')];show Z4 f1
   show ct1 (p0:=(c,s,H)) (p:=p) I A X (by rw[Dm];show v) (λx a W=>(T x W).trans (O x a)) f3 q3 ?_ λ_ _ h=>h;rcases r3.last F with⟨N,h1,Y⟩|⟨s1,t1,e4,d4,o4,o5,N,h1,Y,i1,r4,r5⟩
   .show .inl (h1,u.trans Y,by rw[j,N];show Qb w k)
   .let(c1,c2):=Y76 (w:=w) (k:=k) i1;show .inr (s1,t1,e4,d4,o4,o5,h1,u.trans Y,i1,r4,r5,?_,(Js (N ▸ (Js f).1)).2,by rw[j,N,Xx,Xx];lia);rw[j,N,Gj,(Zh9 w k c2 s1).1,c1]
end
def Kp.new(M N:Z3):Kp M (M++N):=Ks.new M N
inductive Nd where
 | sum (x:Str) (a:Opd) (sg:Str) (b:Opd) (t:Nat) | test (a:Opd) (sg:Str) (b:Opd) (y n:Nat) | fin | spin
def natD(l:LQ):LD:=l.map fun(x:Nat)=>D.int (x:Int)
def Nn(l:LQ):(natD l).length=Lg l:=by ext natD;simp
def Zv6{l:LQ}{k x:Nat}(h:l[k]?=some x):(natD l)[k]?=some (.int x):=by ext natD;rw[Dj,h];rfl
def Zr0(l m:LQ):natD (l++m)=natD l++natD m:=by ext natD;rw[Dc]
def numP(O:LQ):KQ9:=O.mapIdx λi (x:Nat)=>(#v[Hr (x:Int),D.int (i:Nat)]:Key×D)
def G9(O:LQ)(y:Nat):numP (O++[y])=numP O++[#v[Hr (y:Int),D.int (Lg O:Nat)]]:=by ext numP;rw[List.mapIdx_append];simp
def Z35(O:LQ):(numP O).length=Lg O:=by ext numP;simp
def Z85(ps:KQ9)(p:Key×D):Od (ps++[p])=putD (Od ps) p.1 p.2:=by ext Od;rw[Hu];rfl
def Zp9:∀(n:Nat) (O:LQ),Lg O=n->O.Nodup->∀x∈O,valD (Od (numP O)) (Hr (x:Int))=some (.int (O.idxOf x:Nat))
 | 0,O,h,_,x,f=>by rw[Lc.mp h] at f;cases f
 | n+1,O,h,g,x,f=>by
  have c:O≠[]:=by rintro rfl;cases h
  obtain⟨d,y,rfl⟩:∃d y,O=d++[y]:=(O.dropLast,O.getLast c,(List.dropLast_concat_getLast c).symm);rw[Ac,Dg] at h;have a:=As.mp g;rw[G9,Z85,Z38];by_cases e:y=x
  .subst e;rw[nc rfl];rfl';have i:y∉d:=λz=>a.2.2 y z y 's' rfl;rw[Ig,nb i];simp
  .rw[nb (λz=>e (by have:=Hr.inj z;lia))];rfl';have b:x∈d:=(Am.mp f).resolve_right (by rw[Aq];show λz=>e z.symm);rw[Zp9 n d 'o' a.1 x b,Ig,nc b]
def Zg5(l:LQ)(x:Nat):natD (l++[x])=natD l++[.int (x:Nat)]:=Zr0 _ _
def Yz1{x:D}(c:x= .tup xs\/x= .gtup xs)(b:xs.all Yd=true)(a:ys.all Yd=true)(q:B (eqFs xs ys)):eqD M x (.tup ys) B:=by
 rcases c with rfl|rfl
 .show .inr (.inr (.inr (xs,ys,.inl rfl,.inl rfl,b,a,q)))
 .show .inr (.inr (.inr (xs,ys,.inr rfl,.inl rfl,b,a,q)))
def Yt7{l:Ln}{w:Bool}{n:Int}(q:B (l.isJ w n)):eqD M l.h (jl w n).d B:=by
 have:(jl w n).d= .tup [.str (if w then "leave" else "again"),.int n]:=by cases w<;>rfl
 rw[this];show Yz1 l.h_or (by show(true&&_)=true;rw[G3];rfl) (by cases w<;>rfl) ?_;rw[Y41];show q
def Yr:DSp:=λg M Q _=>∃(C:Nat->Prop) (s:FF) (r:Nat) (f:LD) (k m:Nat),g=[.ref r,(jl true k).d,(jl true m).d]/\Z2 M r=some f/\RTs C M (ofF s) f/\(∀c,C c->c<Lg M)/\nl s<=400/\
 ∀h a e b,Lg M<=b->Kp M a->Fm h a b (ofF (TD.sub k m s)) e->Q (.ref e) a
def X6:DSp:=λf M Q _=>∃(C:Nat->Prop) (s:FF) (r:Nat) (e:LD),f=[.ref r]/\Z2 M r=some e/\RTs C M (ofF s) e/\(∀c,C c->c<Lg M)/\nl s<=400/\(TD.nums s).Nodup/\(∀n,TD.hl n s=true->n∈TD.nums s)/\(∀n,TD.ha n s=true->n∈TD.nums s)/\
 ∀g a d b,Lg M<=b->Kp M a->Fm g a b (ofF (TD.ren (TD.nums s).idxOf s)) d->Q (.ref d) a
def Ln.op:Ln->Option Int
 | .rnd n=>some n
 | .prt n=>some n
 | _=>none
def Y26(s:FF):(lns s).filterMap Ln.op=(TD.nums s).map λn:Nat=>(n:Int):=by
 induction s with
 | nil=>rfl
 | act d s a=>rw[Xf];show a
 | fin d s a=>rw[Xh];show a
 | lv n s a=>rw[V6];show a
 | ag n s a=>rw[V7];show a
 | ch d y n s e f a=>
  rw[Wc,Du,Iq,Iq,Du,e,a];erw[TD.nums,Dc,Ln.op];by_cases h:TD.isNil n=true
  .rw[nc h,TD.isNil_eq h];simp[TD.nums]
  .rw[nb h,Du,f];simp[Ln.op]
 | rd k b s c a=>rw[W7,Du,Iq,Du,c,a];simp[TD.nums,Ln.op]
 | pt k b s c a=>rw[W5,Du,Iq,Du,c,a];simp[TD.nums,Ln.op]
def Y50(s:FF):∀l∈lns s,∀n,l.num=some n->∃m:Nat,n=m/\(m∈TD.nums s\/TD.hl m s=true\/TD.ha m s=true):=by
 induction s with
 | nil=>intro l h;cases h
 | act d s a=>
  intro l h n e;rw[Xf] at h;rcases Ab.mp h with rfl|h
  .cases e
  .show a l h n e
 | fin d s a=>
  intro l h n e;rw[Xh] at h;rcases Ab.mp h with rfl|h
  .cases e
  .show a l h n e
 | lv k s a=>
  intro l h n e;rw[V6] at h;rcases Ab.mp h with rfl|h
  .cases e;show(k,rfl,.inr (.inl (by simp[TD.hl])))
  .let(m,f,z):=a l h n e;show(m,f,by rcases z with z|z|z<;>simp[TD.hl,TD.ha,TD.nums,z])
 | ag k s a=>
  intro l h n e;rw[V7] at h;rcases Ab.mp h with rfl|h
  .cases e;show(k,rfl,.inr (.inr (by simp[TD.ha])))
  .let(m,f,z):=a l h n e;show(m,f,by rcases z with z|z|z<;>simp[TD.hl,TD.ha,TD.nums,z])
 | ch d y g s p q a=>
  intro l h n e;have c:∀{t:FF},(∃m:Nat,n=m/\(m∈TD.nums t\/TD.hl m t=true\/TD.ha m t=true))->(t=y\/t=g\/t=s)->∃m:Nat,n=m/\(m∈TD.nums (.ch d y g s)\/TD.hl m (.ch d y g s)=true\/TD.ha m (.ch d y g s)=true):=by rintro t ⟨m,f,z⟩ i;show(m,f,?_);rcases i with rfl|rfl|rfl<;>rcases z with z|z|z<;>simp[TD.hl,TD.ha,TD.nums,z]
  rw[Wc] at h;rcases Ab.mp h with rfl|h
  .cases e
  rcases Am.mp h with h|h
  .show c (p l h n e) (.inl rfl)
  rcases Am.mp h with h|h
  .by_cases o:TD.isNil g=true
   .rw[nc o] at h;cases h
   .rw[nb o] at h;rcases Ab.mp h with rfl|h
    .cases e
    .show c (q l h n e) (.inr (.inl rfl))
  .rcases Ab.mp h with rfl|h
   .cases e
   .show c (a l h n e) (.inr (.inr rfl))
 | rd k b s j a=>
  intro l h n e;have c:∀{t:FF},(∃m:Nat,n=m/\(m∈TD.nums t\/TD.hl m t=true\/TD.ha m t=true))->(t=b\/t=s)->∃m:Nat,n=m/\(m∈TD.nums (.rd k b s)\/TD.hl m (.rd k b s)=true\/TD.ha m (.rd k b s)=true):=by rintro t ⟨m,f,z⟩ i;show(m,f,?_);rcases i with rfl|rfl<;>rcases z with z|z|z<;>simp[TD.hl,TD.ha,TD.nums,z]
  rw[W7] at h;rcases Ab.mp h with rfl|h
  .cases e;show(k,rfl,.inl (by simp[TD.nums]))
  rcases Am.mp h with h|h
  .show c (j l h n e) (.inl rfl)
  .rcases Ab.mp h with rfl|h
   .cases e
   .show c (a l h n e) (.inr rfl)
 | pt k b s j a=>
  intro l h n e;have c:∀{t:FF},(∃m:Nat,n=m/\(m∈TD.nums t\/TD.hl m t=true\/TD.ha m t=true))->(t=b\/t=s)->∃m:Nat,n=m/\(m∈TD.nums (.pt k b s)\/TD.hl m (.pt k b s)=true\/TD.ha m (.pt k b s)=true):=by rintro t ⟨m,f,z⟩ i;show(m,f,?_);rcases i with rfl|rfl<;>rcases z with z|z|z<;>simp[TD.hl,TD.ha,TD.nums,z]
  rw[W5] at h;rcases Ab.mp h with rfl|h
  .cases e;show(k,rfl,.inl (by simp[TD.nums]))
  rcases Am.mp h with h|h
  .show c (j l h n e) (.inl rfl)
  .rcases Ab.mp h with rfl|h
   .cases e
   .show c (a l h n e) (.inr rfl)
def Yt1{l:Ln}(q:F l.op.isSome):ixD M l.h (.int 0) λd=>2<=sizeLine/\inQ M d (.tup [.str "round",.str "part"]) F:=by cases l<;>erw[Ln.h,Ln.g,Ln.d]<;>rfl' <;>show(Z1 'd',rfl,rfl,?_)<;>show q
def Yy9{l:Ln}{n:Int}(h:l.op=some n)(q:F (.int n)):ixD M l.h (.int 1) F:=by cases l<;>cases h<;>erw[Ln.h,Ln.g,Ln.d]<;>rfl' <;>show q
def Zl6{l:Ln}{a:LG}{i:Nat}(h:a[i]?=some l):(a.take (i+1)).filterMap Ln.op=(a.take i).filterMap Ln.op++l.op.toList:=by rw[Xd h,Iq];cases e:l.op<;>simp[e]
def F3{Γ G}(g2:Γ[2]?=some Zn)(g4:Γ[4]?=some Yb):Rd K Γ G Yr Rv Qa:=by
 rintro n M Q Z ⟨C,s,r,H,k,m,rfl,z,u,E,y,q⟩;delta Rv Qa;rfl';erw[g2,g4];have x:(lns s).length<=400:=y;show(C,ofF s,r,H,rfl,z,u,E,(by show(lns s).length<=1000;lia),λf J o t L=>?_);rfl';show(_,Z0 t,?_);erw[capD,Aj,Dz,Lz,Kw,Ie,Iy,Option.join_some];show Ta (λi g b=>∃d,g=[d,some (jl true k).d,some (jl true m).d]/\b=f++[.lst (((lns s).take i).map λl=>(subL k m l).h)]) (none,rfl,rfl) ?_ ?_ ?_
 .rintro i g b _ ⟨d,rfl,rfl⟩;show Zc (Z0 t)
 .rintro i d g b P A ⟨O,rfl,rfl⟩ B;let(l,j,rfl):=Zy9 A;rw[show fls (ofF s)=lns s from rfl] at j;have N:=(Ai.mp j).1;rfl';show Yt7 ?_;have c:∀d:D,d=(subL k m l).h->∃a,Z2 (f++[.lst (((lns s).take i).map λl=>(subL k m l).h)]) (Lg f)=some a/\(Lg a)<sizeLine/\P [some l.h,some (jl true k).d,some (jl true m).d] ((f++[Cell.lst (((lns s).take i).map λl=>(subL k m l).h)]).set (Lg f) (.lst (a++[d]))):=by rintro d rfl;show(_,Z5 _ _ [],Za (by rw[Al,Hk];lia),?_);rw[Rl];show B _ _ (_,rfl,?_);rw[Xd j,Dc];rfl
  cases p:l.isJ true k with
  | true=>show c _ (by ext subL;rw[p];rfl)
  | false=>show c _ (by ext subL;rw[p];rfl)
 .rintro g b ⟨d,rfl,rfl⟩;rw[Al,show fls (ofF s)=lns s from rfl,Ii (na _)];rfl';have e:((lns s).map λl=>(subL k m l).h)=(lns (TD.sub k m s)).map Ln.h:=by rw[<-Zj6,List.map_map];rfl
  rw[e];show(_,lns (TD.sub k m s),rfl,Zh _ _ [],by have:=Y33 k m s;ext this nl;lia,Ze1 _ _,λI b v w F=>?_);rw[Z37] at F;show q I b v _ (by rw[Ac];have:=o.len;lia) ((o.app _).trans w) F
def Ff{Γ G}(g2:Γ[2]?=some Zn)(g4:Γ[4]?=some Yb)(g7:Γ[7]?=some X2):Rd K Γ G X6 Q8 Q2:=by
 rintro O M Q Z ⟨C,s,r,es,rfl,hr,T,hC,hz,X,o,ha,q⟩;delta Q8 Q2;rfl';erw[g2];have E:(lns s).length<=400:=hz;show(C,ofF s,r,es,rfl,hr,T,hC,(by show(lns s).length<=1000;lia),λg V R L l1=>?_);rfl';show(_,Z0 L,?_);erw[capD,Aj,Dz,Lz,Kw,Ie,Iy,Option.join_some];have A:∀N,Zg (g++N) V=some ((lns s).map Ln.h):=λN=>Zc (Z0 L);have B:(TD.nums s).length<=400:=by have:=congrArg Lg (Y26 s);rw[Al] at this;have:=Ky Ln.op (lns s);lia
 show Ta (λi b a=>∃d,b=[d]/\a=g++[.lst ((((lns s).take i).filterMap Ln.op).map .int)]) (none,rfl,rfl) ?_ ?_ ?_
 .rintro i b a _ ⟨d,rfl,rfl⟩;show A _
 .rintro i d b a P t ⟨d0,rfl,rfl⟩ p;let(l,o,rfl):=Zy9 t;rw[show fls (ofF s)=lns s from rfl] at o;have I:=(Ai.mp o).1;rfl';show Yt1 ?_;cases H:l.op with
  | none=>rw[Option.isSome_none,nb Bf9];show p _ _ (_,rfl,?_);rw[Zl6 o,H];simp
  | some n=>
   rw[Option.isSome_some,nc rfl];show Yy9 H (_,Z5 _ _ [],Za ?_,?_)
   .rw[Al];have:=Ky Ln.op ((lns s).take i);rw[Hk] at this;lia
   .rw[Rl];show p _ _ (_,rfl,?_);rw[Zl6 o,H];simp
 rintro b a ⟨d,rfl,rfl⟩;rw[Al,show fls (ofF s)=lns s from rfl,Ii (na _),Y26];clear d;have eD:((TD.nums s).map λn:Nat=>(n:Int)).map D.int=natD (TD.nums s):=by ext natD;rw[List.map_map];rfl
 rw[eD];show(_,Zh _ _ [],?_);show Ta (λi b a=>∃w v,b=[w,v]/\a=g++[.lst (natD (TD.nums s))]++[.lst (U.Sc (numP ((TD.nums s).take i)))]) (none,none,rfl,rfl) ?_ ?_ ?_
 .rintro i b a _ ⟨w,v,rfl,rfl⟩;show(_,Zc (Zh _ _ []),rfl)
 .rintro i d b a P t ⟨w,v,rfl,rfl⟩ p;let(x,j,rfl):=Zy0 t;ext j natD;rw[Dj] at j;cases k:(TD.nums s)[i]? with
  | none=>rw[k] at j;cases j
  | some n=>
   rw[k] at j;cases j;have I:=(Ai.mp k).1;rfl';show(Z1 'd',_,Z5 _ _ [],Za ?_,?_)
   .unfold U.Sc;rw[Al,Z35,Hk];lia
   .rw[Rl];show p _ _ (_,_,rfl,?_);rw[Xd k,G9];ext U.Sc;rw[Dc,Hk,Nat.min_eq_left (nw I)];rfl
 rintro b a ⟨w,v,rfl,rfl⟩;rw[Zs4,Nn,Ik];show .inr (_,Zh _ _ [],by rw[Z35];show Za 'o',?_);have u:Kp g (g++[.lst (natD (TD.nums s))]++[.lst (U.Sc (numP (TD.nums s)))]++[.dct (Od (numP (TD.nums s)))]):=((Ks.new _ _).app _).app _;have y:Yk (g++[.lst (natD (TD.nums s))]++[.lst (U.Sc (numP (TD.nums s)))]++[.dct (Od (numP (TD.nums s)))]) (g++[Cell.lst (natD (TD.nums s))]++[Cell.lst (U.Sc (numP (TD.nums s)))]:Z3).length=some (Od (numP (TD.nums s))):=E2 _ _ [];generalize (g++[Cell.lst (natD (TD.nums s))]++[Cell.lst (U.Sc (numP (TD.nums s)))]:Z3).length=B at y |-;generalize g++[.lst (natD (TD.nums s))]++[.lst (U.Sc (numP (TD.nums s)))]++[.dct (Od (numP (TD.nums s)))]=M2 at u y |-;have S:=u.pW L;show(_,Z0 S,?_)
 try erw[capD,Aj,Dz,Lz,Kw,Ie,Iy,Option.join_some]
 obtain⟨f,hf⟩:∃f:Int->Int,f=λx:Int=>(((TD.nums s).idxOf x.toNat:Nat):Int):=(_,rfl);have J:∀n:Nat,f n=((TD.nums s).idxOf n:Nat):=λn=>by rw[hf];rfl
 show Ta (λi b a=>∃d,b=[d,↑B]/\a=M2++[.lst (((lns s).take i).map λl=>(l.ren f).h)]) (none,rfl,rfl) ?_ ?_ ?_
 .rintro i b a _ ⟨d,rfl,rfl⟩;show Zc (Z0 S)
 .rintro i d b a P t ⟨d0,rfl,rfl⟩ p;let(l,c,rfl):=Zy9 t;rw[show fls (ofF s)=lns s from rfl] at c;have I:=(Ai.mp c).1;rfl';erw[g7];show(l,B,_,f,rfl,G5 y,λn k=>?_,_,Z5 _ _ [],Za (by rw[Al,Hk];lia),?_)
  .let(m,rfl,z):=Y50 s l (Df c) n k;rw[J];show Zp9 _ _ rfl X m ?_;rcases z with z|z|z
   .show z
   .show o m z
   .show ha m z
  .rw[Rl];show p _ _ (_,rfl,?_);rw[Xd c,Dc];rfl
 .rintro b a ⟨d,rfl,rfl⟩;rw[Al,show fls (ofF s)=lns s from rfl,Ii (na _)];erw[g4];have e:((lns s).map λl=>(l.ren f).h)=(lns (TD.ren (TD.nums s).idxOf s)).map Ln.h:=by rw[<-Cq (TD.nums s).idxOf f J s,List.map_map];rfl
  have el:(lns (TD.ren (TD.nums s).idxOf s)).length<=400:=by rw[<-Cq (TD.nums s).idxOf f J s,Al];show E
  rw[e];show(_,lns (TD.ren (TD.nums s).idxOf s),rfl,Zh _ _ [],el,Ze1 _ _,λC2 a W Y F=>?_);rw[Z37] at F;show q C2 a W _ (by rw[Ac];have:=R.len;have:=u.len;lia) (((R.trans u).app _).trans Y) F
def Cl(C:Nat->Prop)(M:Z3)(fp:LQ)(t:FF)(r:Nat)(M':Z3):Prop:=∃(a:Nat->Prop) (c:LD) (b:LQ),Ks (λx=>x∈fp) M M'/\Z2 M' r=some c/\RF a M' t c b/\(∀x,C x->a x)/\(∀x,a x->(C x\/x∈fp\/(Lg M)<=x)/\x<Lg M')/\b.Nodup/\∀x∈b,(x∈fp\/(Lg M)<=x)/\x<Lg M'/\¬a x
structure Bd(C:Nat->Prop)(M:Z3)(c:Nat)(b:FF)(os:LQ):Prop where
 h:Pd.has C M (c,b,os) b
 nd:(c::os).Nodup
 s:Cs C M (c,b,os)
 ok:okF b
 z:nl b<=400
section
variable{C:Nat->Prop}{M M':Z3}{c:Nat}{b b':FF}{os:LQ}
def Bd.up(B:Bd C M c b os)(k:Kp M M'):Bd C M' c b os:=by show(B.h.keep (λx a=>k.at' x (λz=>z) (B.s.c x a)) λx a=>k.at' x (λz=>z) (B.s.l x a).1,B.nd,(λx a=>(ng (B.s.l x a).1 k.len,(B.s.l x a).2),λx a=>ng (B.s.c x a) k.len),B.ok,B.z)
def Bd.cut(B:Bd C M c b os){w:Bool}{k:Nat}(ks:Ks (λx=>x∈c::os) M M')(h:Pd.has C M' (c,b,os) (TD.cut w k b)):Bd C M' c (TD.cut w k b) os:=
 (h,B.nd,(λx a=>(ng (B.s.l x a).1 ks.len,(B.s.l x a).2),λx a=>ng (B.s.c x a) ks.len),λd e=>B.ok d (by rw[TD.acts_cut] at e;show e),nh (Zn1 w k b) B.z)
abbrev Co(C:Nat->Prop)(os:LQ):Nat->Prop:=λx=>C x\/x∈os
def Bd.rts(B:Bd C M c b os):∃es,Z2 M c=some es/\RF C M b es os/\RTs (Co C os) M (ofF b) es/\∀x,Co C os x->x<Lg M:=by let(es,e,a):=B.h;show(es,e,a,a.rts (λ_ h=> .inl h) b λ_ h=> .inr h,λx d=>d.elim (B.s.c x) λh=>(B.s.l x (Ae _ h)).1)
def Ks.all(h:Kp M M'):Ks F M M':=h.mono λ_ _ z=>z.elim
def Bd.self(B:Bd C M' c b' os)(ks:Ks (λx=>x∈c::os) M M')(h:Bd C M c b os):Cl C M (c::os) b' c M':=by let(f,e,d):=B.h;show(C,f,os,ks,e,d,λ_ z=>z,λx a=>(.inl a,B.s.c x a),(Ao.mp B.nd).2,λx a=>(.inl (Ae _ a),B.s.l x (Ae _ a)))
def Bd.wrap(B:Bd C M' c b' os)(ks:Ks (λx=>x∈c::os) M M'){t:FF}{d:D}(f:Kp M' e)(i:Z2 e r=some [d])(g:∀C' es,C' c->Z2 e c=some es->RTs C' e (ofF b') es->RF C' e t [d] []):Cl C M (c::os) t r e:=by
 let(es,m,n,k,j):=(B.up f).rts;show(λx=>C x\/x∈c::os,[d],[],ks.trans f.all,i,g _ es (.inr Ad) m (k.up λx a=>a.imp_right (Ae _)),λ_ h=> .inl h,λx a=>(a.imp_right .inl,?_),Io,λx a=>by cases a);rcases a with a|a
 .show j x (.inl a)
 .exact((B.up f).s.l x a).1
end
def Sb:DSp:=λe M Q _=>∃(C:Nat->Prop) (c:Nat) (b:FF) (a:LQ) (k:Nat) (g:Bool),e=[.int k,.ref c,.bl g]/\Bd C M c b a/\∀d r,Cl C M (c::a) (TD.clsP k b g).1 r d->Q (.tup [.ref r,.bl (TD.clsP k b g).2]) d
def To:DSp:=λe M Q _=>∃(C:Nat->Prop) (c:Nat) (b:FF) (a:LQ) (k:Nat),e=[.int k,.ref c]/\Bd C M c b a/\∀d r,Cl C M (c::a) (.rd k (TD.cut false k b) .nil) r d->Q (.tup [.ref r,.bl (TD.hl k (TD.cut false k b))]) d
def Bd.has{C:Nat->Prop}{M:Z3}{c:Nat}{b:FF}{os:LQ}(B:Bd C M c b os)(w:Bool)(k:Nat){Q:DK}{Z:DX}(q:∀M',Kp M M'->Q (.bl (if w then TD.hl k b else TD.ha k b)) M'):V8 [.ref c,(jl w k).d] M Q Z:=by
 let(h,g,i,f,e):=B.rts;show(Co C os,ofF b,c,h,w,k,rfl,g,f,e,by change nl b<=1000;have:=B.z;lia,λM' a=>?_);have:(fls (ofF b)).any (Ln.isJ w k)=if w then TD.hl k b else TD.ha k b:=by
  cases w
  .show Yl9 k b
  .show Yr8 k b
 rw[this];show q M' a
def Oe{Γ G}(g9:Γ[9]?=some Td)(g10:Γ[10]?=some V8):Rd K Γ G To Tj Te:=by rintro d M Q Z ⟨C,c,b,l,k,rfl,B,q⟩;delta Tj Te;rfl';erw[g9];show(Z1 'd',C,b,c,l,false,k,rfl,B.h,B.nd,B.s,B.ok,B.z,λi g a=>?_);have j:=B.cut g a;rfl';erw[g10];have f:Kp i (i++[Cell.lst [D.tup [.str "round",.int k,.ref c]]]):=Ks.new _ _;show(Z1 'd',Z1 'd',Z1 'd',(j.up f).has true k λp e=>(Z1 'd',q _ _ ?_));show j.wrap g (f.trans e) (e.pW (Z5 _ _ [])) λr o a n m=>(c,o,[],rfl,a,n,m,rfl,rfl)
set_option tactic.hygienic true in
def Yj1(a:(ofF u).length=1):Wj u=true:=by cases u<;>erw[ofF,Dy,Af] at a<;>first | lia | (rename_i r;cases r<;>first | rfl | (erw[ofF,Af] at a;lia))
def Yx3{x:Str}{l:LD}(i:Wj u=true)(d:¬∃m g,u= .rd m g .nil)(h:RF C M u [.tup (.str x::l)] o):¬x="round":=by
 cases u with
 | nil=>cases i
 | act a r=>let(e,b,_):=h;cases (De b).1;decide+kernel
 | fin a r=>let(e,b,_):=h;cases (De b).1;decide+kernel
 | lv n r=>let(e,b,_):=h;cases (De b).1;decide+kernel
 | ag n r=>let(e,b,_):=h;cases (De b).1;decide+kernel
 | ch a y n r=>let(p,q,f,t,e,s,k,j,b,_):=h;cases (De b).1;decide+kernel
 | rd m c r=>show absurd (m,c,by rw[TD.isNil_eq i]) d
 | pt m c r=>let(p,f,e,b,_):=h;cases (De b).1;decide+kernel
def cp2{Γ G}(g11:Γ[11]?=some Yr){M o:Z3}{C:Nat->Prop}{c:Nat}{b u:FF}{os:LQ}{k:Nat}{x:Option D}{R:DEnds}(B:Bd C o c u os)(ks:Ks (λx=>x∈c::os) M o)(hu:TD.hl k u=true)(q:∀M' r,Cl C M (c::os) (TD.one k u) r M'->R.rt (.tup [.ref r,.bl true]) M'):
  tss (K,Γ,G) noX Yy R [some (.int k),↑c,x,some (.tup [.str "leave",.int k])] o:=by
 let(v,g,j,i,W):=B.rts;have a:TD.one k u= .pt k u .nil->tss (K,Γ,G) noX Yz R [some (.int k),↑c,x,some (.tup [.str "leave",.int k])] o:=λe=>by delta Yz;rfl';show(Z1 'd',Z1 'd',Z1 'd',q _ _ ?_);rw[e];show B.wrap ks (Ks.new _ _) (Z5 _ _ []) λC' v g j i=>(c,v,[],rfl,g,j,i,rfl,rfl)
 delta Yy;generalize V:Yz=BB at a;rfl';show Zv (Z0 g) ?_;rfl';have t:=i.len;by_cases l:Lg v=1
 .rw[nc 'o'];have P:(ofF u).length=1:='o';let(d,rfl):=Ke.mp l;have E:=Yj1 P;let(O,S,rfl,_):=Ym5 E j;show ix_l (k:=0) (Z0 g) rfl ?_;rfl';by_cases w:∃m n,u= .rd m n .nil
  .let(m,n,eu):=w;have H:=B.z;rw[eu] at j i H q;obtain⟨p,Z,e8⟩:∃p,O="round"/\S=[.int m,.ref p]:=by clear q a V;let(p,d1,e,y,hp,h5,h6,_):=j;let(y,_):=De y;cases y;show(p,rfl,rfl)
   rw[e8] at g i;rw[nc Z];show ix_l (k:=0) (Z0 g) rfl ?_;rfl';erw[g11];show(Z1 'd',Co C os,.rd m n .nil,c,_,k,m,rfl,g,i,W,H,λC2 M' T bb hb A F=>(Z1 'd',q _ _ ?_));let(ds,Y,X):=F.e;change Cl C M (c::os) (TD.sub k m (.rd m n .nil)) T M';let(d',Q,rfl,(c',d2,rfl,N,L,J),I):=X;cases (show Q=[] from I);have lM:=ks.len;show(λx=>C x\/C2 x,_,[],ks.trans A.all,Y,(c',d2,[],rfl,.inr N,L,J.up λ_ h=> .inr h,rfl,rfl),λ_ h=> .inl h,λx f=>?_,Io,λx f=>by cases f);rcases f with f|f
   .exact(.inl f,ng (B.s.c x f) A.len)
   .have:=F.c x f;show(.inr (.inr 'o'),this.2)
  .have e1:TD.one k u= .pt k u .nil:=by
    ext TD.one;split
    .show absurd (_,_,rfl) w
    .rfl
   have U:=Yx3 E w j;rw[nb U];show a e1
 .rw[nb 'o',nb 'o'];show a ?_;ext TD.one;split
  .show absurd t (by erw[ofF,Af,Dy];show l)
  .rfl
def Jr{Γ G}(g9:Γ[9]?=some Td)(g10:Γ[10]?=some V8)(g11:Γ[11]?=some Yr):Rd K Γ G Sb Sw Sk:=by
 rintro n M Q Z ⟨C,c,b,p,k,g,rfl,B,q⟩;delta Sw Sk;generalize y:Yy=BB;rfl';erw[g9,g10];have d:∀(a:Z3) (i:Bool),Kp M a->i=(g || TD.hl k b)->Td [.ref c,.tup [.str "leave",.int k]] a (λ_ a=>V8 [.ref c,.tup [.str "leave",.int k]] a (λx a=>truD a x λb=>if b=false then 2<=sizeLine/\Q (.tup [.ref c,.bl i]) a else tss (K,Γ,G) noX BB {nx:=λ_ M=>Q .non M,rt:=Q} [some (.int k),↑c,some (.bl i),some (.tup [.str "leave",.int k])] a) noX) noX:=by
  intro a i j m;have f:=B.up j;show(C,b,c,p,true,k,rfl,f.h,f.nd,f.s,f.ok,f.z,λD u A=>?_);have w:=f.cut u A;show w.has true k λo t=>?_;have v:=w.up t;have r:Ks (λx=>x∈c::p) M o:=(j.all.trans u).trans t.all;change truD o (.bl (TD.hl k (TD.cut true k b))) _;rfl';cases l:TD.hl k (TD.cut true k b) with
  | false=>
   rw[nc rfl];have e:TD.clsP k b g=#v[TD.cut true k b,i]:=by ext TD.clsP;rw[l,nb Bf9,m]
   rw[e] at q;show(Z1 'd',q o c (v.self r B))
  | true=>
   rw[nb 'd'];subst y;have e:TD.clsP k b g=#v[TD.one k (TD.cut true k b),true]:=by ext TD.clsP;rw[l,nc rfl]
   rw[e] at q;show cp2 (b:=b) g11 v r l q
 show(Z1 'd',?_);cases g with
 | false=>rw[nc rfl];show B.has true k λa j=>d a _ j rfl
 | true=>rw[nb 'd'];show d M true (Ks.refl M) rfl
structure En where
 c:Nat
 t:FF
 o:LQ
 g:Bool
structure Fra where
 p:Uc
 k:Uc
 x:Uc
 l:Option Ln
 a:Nat
 b:Nat
 es:List En
def Fra.d(f:Fra):D:= .obj f.p f.k f.x (match f.l with | none=> .non | some l=>l.g) (.ref f.a) (.ref f.b)
def En.foot(e:En):LQ:=e.c::e.o
def Fra.foot(f:Fra):LQ:=f.a::f.b::f.es.flatMap En.foot
structure Fok(C:Nat->Prop)(M:Z3)(f:Fra):Prop where
 a:Z2 M f.a=some (f.es.map λe=> .ref e.c)
 b:Z2 M f.b=some (f.es.map λe=> .bl e.g)
 e:∀e∈f.es,Pd.has C M (e.c,e.t,e.o) e.t/\okF e.t/\nl e.t<=400
structure Fap(C:Nat->Prop)(M:Z3)(f:Fra):Prop where
 nd:f.foot.Nodup
 l:∀x∈f.foot,x<Lg M/\¬C x
 c:∀x,C x->x<Lg M
def Sh(f:Fra)(t:FF)(g:Bool):Prop:=
 (∃(d:Dl) (e:En),f.l=some (.cond d.a d.s d.b)/\f.es=[e]/\t= .ch d e.t .nil .nil/\g=true)\/
 (∃(d:Dl) (e c:En),f.l=some (.cond d.a d.s d.b)/\f.es=[e,c]/\t= .ch d e.t c.t .nil/\g=(e.g || c.g))\/
 (∃(k:Nat) (e:En),f.l=some (.prt k)/\f.es=[e]/\t=(TD.clsP k e.t e.g).1/\g=(TD.clsP k e.t e.g).2)\/
 (∃(k:Nat) (e:En),f.l=some (.rnd k)/\f.es=[e]/\t=(TD.clsR k e.t e.g).1/\g=(TD.clsR k e.t e.g).2)
def Yh(K:Aa)(cl:Uc):DSp:=λb M Q _=>∃(C:Nat->Prop) (f:Fra) (t:FF) (g:Bool),b=[f.d]/\f.k=cl/\Oc K cl/\Fok C M f/\Fap C M f/\Sh f t g/\∀a r,Cl C M f.foot t r a->Q (.tup [.ref r,.bl g]) a
def Cl.mono{fp b:LQ}{t:FF}(h:Cl C e fp t r M')(k:Kp M e)(s:∀x∈fp,x∈b):Cl C M b t r M':=by
 let(o,n,f,m,l,j,i,d,g,c):=h;have:=k.len;show(o,n,f,k.all.trans (m.mono λx _ a=>s x a),l,j,i,λx a=>(?_,(d x a).2),g,λx a=>(?_,(c x a).2))
 .rcases(d x a).1 with z|z|z
  .show .inl z
  .show .inr (.inl (s x z))
  .show .inr (.inr 'o')
 .rcases(c x a).1 with z|z
  .show .inl (s x z)
  .show .inr 'o'
def Fok.bd{C:Nat->Prop}{M:Z3}{f:Fra}{e:En}(h:Fok C M f)(p:Fap C M f)(g:f.es=[e]):Bd C M e.c e.t e.o:=by
 have i:f.foot=f.a::f.b::(e.c::e.o):=by ext Fra.foot;rw[g];simp[En.foot]
 have d:=p.nd;rw[i] at d;let(n,m,k):=h.e e (by rw[g];show Ad);show(n,(Ao.mp (Ao.mp d).2).2,(λx j=>p.l x (by rw[i];show Ae _ (Ae _ j)),p.c),m,k)
def Fra.sub{f:Fra}(b:f.es=[e]):∀x∈e.c::e.o,x∈f.foot:=λx a=>by ext Fra.foot;rw[b];erw[List.flatMap_cons,List.flatMap_nil,Au,En.foot];show Ae _ (Ae _ a)
def cl4{Γ G}{M e:Z3}{C:Nat->Prop}{f:Fra}{d:Dl}{c1 c2:Nat}{y n:FF}{o1 o2:LQ}{bs:List Bool}{R:DEnds}{w v:Option D}(o:Oc K f.k)(L:f.l=some (.cond d.a d.s d.b))(ks:Ks (λx=>x∈f.foot) M e)(p:∀x,C x->x<Lg e)(J:Z2 e f.a=some [.ref c1,.ref c2])(I:Z2 e f.b=some (bs.map .bl))(F:Pd.has C e (c1,y,o1) y)(H:Pd.has C e (c2,n,o2) n)
  (A:(c1::c2::(o1++o2)).Nodup) (j:∀x∈c1::c2::(o1++o2),(x∈f.foot\/(Lg M)<=x)/\x<Lg e/\¬C x) (q:∀M' r,Cl C M f.foot (.ch d y n .nil) r M'->R.rt (.tup [.ref r,.bl (bs.any id)]) M'):
  tss (K,Γ,G) noX Vv R [some f.d,w,v] e:=by
 erw[Vv,Fra.d,L,Ln.g];rfl';show o.fl (o.fs ?_);rfl';show(_,Z0 J,?_);rfl';show(by simp,Z1 's',Z1 'd',o.fg ?_);rfl';show(bs,Zc (Z0 I),Z1 'd',q _ _ ?_);let(N,u,t):=F;let(O,E,B):=H;have m:∀x,x<Lg e->(e++[Cell.lst [D.tup [.str "choice",d.a.d,.str d.s,d.b.d,.ref c1,.ref c2]]])[x]?=e[x]?:=λx i=>Y0 i;show(C,_,c1::c2::(o1++o2),ks.app _,Z5 _ _ [],(c1,c2,N,O,[],o1,o2,[],rfl,by simp,Z4 u,?_,Z4 E,?_,rfl,rfl),λ_ h=>h,λx i=>(.inl i,by rw[Ac];have:=p x i;lia),A,λx i=>((j x i).1,by rw[Ac];have:=(j x i).2.1;lia,(j x i).2.2))
 .show t.keep (λ_ z=>z) (λc h=>m c (p c h)) y λc h=>m c (j c (by simp[show c∈o1 from h])).2.1
 .show B.keep (λ_ z=>z) (λc h=>m c (p c h)) n λc h=>m c (j c (by simp[show c∈o2 from h])).2.1
def Zq9{Γ G}{cl:Uc}(gc:G[3]?=some (.cls cl))(g6:Γ[6]?=some (Y7 K))(g10:Γ[10]?=some V8)(g12:Γ[12]?=some Sb)(g13:Γ[13]?=some To):Rd K Γ G (Yh K cl) Bv Z03:=by
 rintro Y M Q Z ⟨C,f,t,g,rfl,rfl,A,w,F,sh,q⟩;delta Bv Z03;generalize S:Vz=B3;generalize h4:Vv=B4;erw[Fra.d];rfl';have z0:∀{e:En},f.es=[e]->(f.es.length=1):=λh=>by rw[h];rfl
 show A.fl ?_;rcases sh with⟨d,e,I,i,rfl,rfl⟩|⟨d,e,E,I,i,rfl,rfl⟩|⟨k,e,I,i,rfl,rfl⟩|⟨k,e,I,i,rfl,rfl⟩
 .simp only[I,Ln.g];rfl';show A.fs (Zv (Z0 w.a) ?_);rfl';rw[nc (by rw[Al,i];rfl)];erw[g6];have P:=F.nd;have J:f.foot=f.a::f.b::(e.c::e.o):=by ext Fra.foot;rw[i];simp[En.foot]
  rw[J] at P;let(n1,n2):=Ao.mp P;let(n3,n4):=Ao.mp n2;have B:=w.bd F i;have ab:f.a≠f.b:=λz=>n1 (by rw[z];show Ad);have la:=(F.l f.a (by rw[J];simp)).1;have lb:=(F.l f.b (by rw[J];simp)).1;show(gc,f.p,f.k,f.x,_,f.a,f.b,_,_,rfl,A,w.b,w.a,ab,by rw[Al,i];change 1<=1000;lia,by rw[Al,i];change 1<=1000;lia,?_);subst h4;obtain⟨j,v⟩:∃j:Z3,j=Ha (Ha (M++[Cell.lst []]) f.a (.lst (f.es.map (λe=>D.ref e.c)++[.ref (Lg M)]))) f.b (.lst (f.es.map (λe=>D.bl e.g)++[.bl true])):=(_,rfl);rw[<-v];have R:∀x,x≠f.a->x≠f.b->x<Lg M->j[x]?=M[x]?:=λx W T S=>by rw[v,Yc (Av T),Yc (Av W),Y0 S]
  have ks:Ks (λx=>x∈f.foot) M j:=by rw[v];show(((Ks.new _ _).set (.inl (by rw[J];simp))).set (.inl (by rw[J];simp)))
  have r1:Z2 j f.a=some [.ref e.c,.ref (Lg M)]:=by rw[v,Z8 (Av ab),Zd (by rw[Ac];lia),i];rfl
  have r2:Z2 j f.b=some ([e.g,true].map .bl):=by rw[v,Zd (by rw[Dm,Ac];lia),i];rfl
  have r3:Z2 j (Lg M)=some []:=by rw[v,Z8 'o',Z8 'o'];show Z5 _ _ []
  have ll:Lg j=Lg M+1:=by rw[v];simp
  have nC:∀x∈f.foot,¬C x:=λx u=>(F.l x u).2;have kf:∀x∈e.c::e.o,j[x]?=M[x]?:=λx u=>R x (λz=>n1 (by rw[<-z];show Ae _ u)) (λz=>n3 (by rw[<-z];show u)) (B.s.l x u).1;have U:(some (D.obj f.p f.k f.x (.tup [.str "choice",d.a.d,.str d.s,d.b.d]) (.ref f.a) (.ref f.b)):Option D)=some f.d:=by ext Fra.d;rw[I];rfl
  rw[U];show cl4 (M:=M) (C:=C) (f:=f) (d:=d) (y:=e.t) (n:= .nil) (c1:=e.c) (c2:=Lg M) (o1:=e.o) (o2:=[]) (bs:=[e.g,true]) A I ks (λx u=>by have:=F.c x u;lia) r1 r2 (B.h.keep (λc V=>R c (λz=>nC _ (by rw[J];simp) (z ▸ V)) (λz=>nC _ (by rw[J];simp) (z ▸ V)) (F.c c V)) kf) ([],r3,rfl,rfl) ?_ ?_ λL r h=>?_
  .rw[Au];let(n5,n6):=Ao.mp n4;show Ao.mpr (λz=>?_,Ao.mpr (λz=>?_,n6))
   .rcases Ab.mp z with z|z
    .have:=(B.s.l e.c Ad).1;lia
    .show n5 z
   .have:=(B.s.l (Lg M) (Ae _ z)).1;lia
  .intro x u;rw[Au] at u;have O:x∈e.c::e.o->(x∈f.foot\/(Lg M)<=x)/\x<Lg j/\¬C x:=λh=>(.inl (Fra.sub i x h),by have:=(B.s.l x h).1;lia,(B.s.l x h).2);rcases Ab.mp u with rfl|u
   .show O Ad
   rcases Ab.mp u with rfl|u
   .exact(.inr (na _),'o',λz=>by have:=F.c _ z;lia)
   .show O (Ae _ u)
  .have:=q L r h;rw[show([e.g,true].any id)=true by simp];show this
 .simp only[I,Ln.g];rfl';show A.fs (Zv (Z0 w.a) ?_);rfl';rw[nb (by rw[Al,i];change ¬((2:Nat):Int)=1;lia)];subst h4;have U:(some (D.obj f.p f.k f.x (.tup [.str "choice",d.a.d,.str d.s,d.b.d]) (.ref f.a) (.ref f.b)):Option D)=some f.d:=by ext Fra.d;rw[I];rfl
  rw[U];have J:f.foot=f.a::f.b::((e.c::e.o)++(E.c::E.o)):=by ext Fra.foot;rw[i];simp[En.foot]
  have P:=F.nd;rw[J] at P;have pm:((e.c::e.o)++(E.c::E.o)).Perm (e.c::E.c::(e.o++E.o)):=(List.perm_middle (l₁:=e.o)).cons e.c;show cl4 (M:=M) (C:=C) (f:=f) (d:=d) (y:=e.t) (n:=E.t) (c1:=e.c) (c2:=E.c) (o1:=e.o) (o2:=E.o) (bs:=[e.g,E.g]) A I (Ks.refl M) F.c (by have:=w.a;rwa[i] at this) (by have:=w.b;rwa[i] at this) (w.e e (by rw[i];simp)).1 (w.e E (by rw[i];simp)).1 (pm.nodup_iff.mp (Ao.mp (Ao.mp P).2).2) (λx u=>?_) λL r h=>?_
  .have m:x∈f.foot:=by rw[J];show Ae _ (Ae _ (pm.mem_iff.mpr u))
   show(.inl m,F.l x m)
  .have:=q L r h;rw[show([e.g,E.g].any id)=(e.g || E.g) by simp];show this
 .simp only[I,Ln.g,Ln.d];rfl'
  try rw[nb 'k']
  subst S;delta Vz;generalize T:Vt=B2;rfl';show A.fl ?_;rfl';show A.fs (ix_l (k:=0) (Z0 w.a) (by rw[i];rfl) ?_);rfl';show A.fl ?_;rfl'
  try rw[nc rfl]
  show A.fg (ix_l (k:=0) (Z0 w.b) (by rw[i];rfl) ?_);rfl';erw[g12];show(C,e.c,e.t,e.o,k,e.g,rfl,w.bd F i,λL r h=>q L r (h.mono (Ks.refl M) (Fra.sub i)))
 .simp only[I,Ln.g,Ln.d];rfl'
  try rw[nb 'k']
  subst S;delta Vz;generalize T:Vt=B2;rfl';show A.fl ?_;rfl';show A.fs (ix_l (k:=0) (Z0 w.a) (by rw[i];rfl) ?_);rfl';show A.fl ?_;rfl'
  try rw[nb 'k']
  subst T;delta Vt;generalize W:Rk=B1;rfl';show A.fg (ix_l (k:=0) (Z0 w.b) (by rw[i];rfl) ?_);rfl';erw[g10,g13];have B:=w.bd F i;have H:∀j,Kp M j->(e.g || TD.ha k e.t)=true->To [.int k,.ref e.c] j Q noX:=λj N hg=>by
   have X:TD.clsR k e.t e.g=#v[.rd k (TD.cut false k e.t) .nil,TD.hl k (TD.cut false k e.t)]:=by ext TD.clsR;rw[nc hg]
   rw[X] at q;show(C,e.c,e.t,e.o,k,rfl,B.up N,λL r h=>q L r (h.mono N (Fra.sub i)))
  cases eg:e.g with
  | true=>rw[nb 'd',nc rfl];show H M (Ks.refl M) (by rw[eg];rfl)
  | false=>
   rw[nc rfl];show(Z1 'd',B.has false k λj N=>?_);change truD j (.bl (TD.ha k e.t)) _;rfl';cases hh:TD.ha k e.t with
   | true=>rw[nc rfl];show H j N (by rw[hh];simp)
   | false=>
    rw[nb Bf9];subst W;delta Rk;rfl';erw[g12];have X:TD.clsR k e.t e.g=TD.clsP k e.t false:=by ext TD.clsR;rw[eg,hh,nb 'd']
    rw[X] at q;show(C,e.c,e.t,e.o,k,false,rfl,B.up N,λL r h=>q L r (h.mono N (Fra.sub i)))
abbrev fts(fs:List Fra):LQ:=fs.flatMap Fra.foot
structure GV{α:Type}(foot:α->LQ)(dd:α->D)(Ok:(Nat->Prop)->Z3->α->Prop)(M0:Z3)(P:Nat)(fs:List α)(C:Nat->Prop)(M:Z3):Prop where
 k:Kp M0 M
 o:Z2 M P=some (fs.reverse.map dd)
 f:∀f∈fs,Ok C M f
 nd:(P::fs.flatMap foot).Nodup
 c:∀x,C x->(Lg M0)<=x/\x<Lg M/\x∉P::fs.flatMap foot
 l:∀x∈P::fs.flatMap foot,Lg M0<=x/\x<Lg M
def GV.up{g:Type}{foot:g->LQ}{w:g->D}{Ok:(Nat->Prop)->Z3->g->Prop}(o:∀{C C':Nat->Prop} {M M':Z3} {f:g},Ok C M f->(∀x,C x->C' x)->(∀x,C x->M'[x]?=M[x]?)->(∀x∈foot f,M'[x]?=M[x]?)->Ok C' M' f){M0 M M':Z3}{P:Nat}{fs fs' r:List g}{C C':Nat->Prop}(I:GV foot w Ok M0 P (fs++r) C M)(ks:Ks (λx=>x=P\/x∈fs.flatMap foot) M M')(N:∀x,C x->C' x)(v:∀x,C' x->(C x\/x∈fs.flatMap foot\/(Lg M)<=x)/\x<Lg M')(B:(fs'.flatMap foot).Nodup)(q:∀x∈fs'.flatMap foot,(x∈fs.flatMap foot\/(Lg M)<=x)/\x<Lg M'/\¬C' x)(L:∀f∈fs',Ok C' M' f)(K:Z2 M' P=some ((fs'++r).reverse.map w)):GV foot w Ok M0 P (fs'++r) C' M':=by
 have i:∀fs:List g,(fs++r).flatMap foot=fs.flatMap foot++r.flatMap foot:=λfs=>List.flatMap_append;have b:=Ao.mp I.nd;rw[i] at b;let(R,E,s):=As.mp b.2;have d:=I.l;rw[i] at d;have p:=I.c;rw[i] at p;have t:∀x∈r.flatMap foot,x<Lg M:=λx a=>(d x (by simp[a])).2;have G:∀x∈r.flatMap foot,M'[x]?=M[x]?:=λx a=>ks.at' x (λz=>by
  rcases z with rfl|z
  .show b.1 (Bk _ a)
  .show s x z x a rfl) (t x a)
 have H:∀x,C x->M'[x]?=M[x]?:=λx a=>ks.at' x (λz=>(p x a).2.2 (by
  rcases z with rfl|z
  .show Ad
  .simp[z])) (p x a).2.1
 have Q:=d P Ad;have J:=I.k.len;have F:=ks.len;show((λx n l=>?_,nh J F),K,λf u=>?_,?_,λx a=>?_,λx a=>?_)
 .rw[ks.at' x (λz=>by
   have:x∈P::(fs.flatMap foot++r.flatMap foot):=by
    rcases z with rfl|z
    .show Ad
    .simp[z]
   have:=(d x this).1;lia) 'o']
  show I.k.at' x n l
 .rcases Am.mp u with h|h
  .show L f h
  .show o (I.f f (Bk _ h)) N H λx a=>G x (Ib.mpr (f,h,a))
 .rw[i];show Ao.mpr (λz=>?_,As.mpr (B,E,λx a y A e=>?_))
  .rcases Am.mp z with z|z
   .rcases(q P z).1 with z|z
    .show b.1 (Bs _ z)
    .lia
   .show b.1 (Bk _ z)
  .subst e;rcases(q x a).1 with z|z
   .show s x z x A rfl
   .have:=t x A;lia
 .let(z,O):=v x a;show(?_,O,λm=>?_)
  .rcases z with z|z|z
   .exact(p x z).1
   .exact(d x (by simp[z])).1
   .lia
  .rw[i] at m;have j:x∉P::r.flatMap foot:=λm=>by
    rcases z with z|z|z
    .exact(p x z).2.2 (by rcases Ab.mp m with m|m<;>simp[m])
    .rcases Ab.mp m with m|m
     .show b.1 (Bs _ (m ▸ z))
     .show s x z x m rfl
    .rcases Ab.mp m with m|m
     .lia
     .have:=t x m;lia
   rcases Ab.mp m with m|m
   .show j (by simp[m])
   .rcases Am.mp m with m|m
    .exact(q x m).2.2 a
    .show j (by simp[m])
 .rw[i] at a;rcases Ab.mp a with rfl|a
  .exact(Q.1,'o')
  rcases Am.mp a with a|a
  .refine(?_,(q x a).2.1);rcases(q x a).1 with z|z
   .exact(d x (by simp[z])).1
   .lia
  .have:=(d x (by simp[a]));lia
abbrev TI(cl:Uc):Z3->Nat->List Fra->(Nat->Prop)->Z3->Prop:=GV Fra.foot Fra.d λC M f=>Fok C M f/\f.k=cl
section
variable{cl:Uc}{M0 M M':Z3}{P:Nat}{fs fs' r:List Fra}{C C':Nat->Prop}{f g:Fra}
def Fok.keep(h:Fok C M f)(m:∀x,C x->C' x)(l:∀x,C x->M'[x]?=M[x]?)(i:∀x∈f.foot,M'[x]?=M[x]?):Fok C' M' f:=by
 show(?_,?_,λe k=>?_)
 .rw[Z6 (i f.a Ad)];show h.a
 .rw[Z6 (i f.b (Ae _ Ad))];show h.b
 .let((q,p,o),n):=h.e e k;have d:∀x∈e.foot,M'[x]?=M[x]?:=λx j=>i x (Ae _ (Ae _ (Ib.mpr (e,k,j))));show((q,by rw[Z6 (d e.c Ad)];show p,o.keep m l e.t λx j=>d x (Ae _ j)),n)
def TI.up(I:TI cl M0 P (fs++r) C M)(ks:Ks (λx=>x=P\/x∈fts fs) M M')(m:∀x,C x->C' x)(e:∀x,C' x->(C x\/x∈fts fs\/(Lg M)<=x)/\x<Lg M')(i:(fts fs').Nodup)(n:∀x∈fts fs',(x∈fts fs\/(Lg M)<=x)/\x<Lg M'/\¬C' x)(l:∀f∈fs',Fok C' M' f/\f.k=cl)(j:Z2 M' P=some ((fs'++r).reverse.map Fra.d)):TI cl M0 P (fs'++r) C' M':=
 GV.up (λh a b c=>(h.1.keep a b c,h.2)) I ks m e i n l j
def TI.fap(I:TI cl M0 P (f::r) C M):Fap C M f:=by have b:=(Ao.mp I.nd).2;show((As.mp b).1,λx a=>?_,λx a=>(I.c x a).2.1);have m:x∈P::fts (f::r):=Ae _ (Bs _ a);show((I.l x m).2,λz=>(I.c x z).2.2 m)
end
def En.told(e:En)(t:FF)(os:LQ)(g:Bool):En:=if e.g then(e.c,TD.app e.t t,e.o++os,g) else e
def Fra.on(f:Fra)(es:List En):Fra:={f with es:=es}
def RF.len{C:Nat->Prop}{M:Z3}{s:FF}{a:LD}{os:LQ}(h:RF C M s a os):Lg a<=nl s:=by have c:=(h.rts (C':=λ_=>True) (λ_ _=>trivial) s λ_ _=>trivial).len;have b:=Vh (ofF s);unfold nl lns;lia
def Zk1{f:Fra}{a:List En}{e:En}(b:f.es=a++[e]){t:FF}{os:LQ}{g:Bool}(c:e.g=true):(f.on (a++[e.told t os g])).foot=f.foot++os:=by unfold Fra.foot Fra.on;rw[b];simp[En.foot,En.told,c]
section
variable{K:Aa}{cl:Uc}{M0 M M1:Z3}{P:Nat}{fs r:List Fra}{C C1:Nat->Prop}{g:Fra}
def TI.tell(I:TI cl M0 P ((fs++[g])++r) C M)(oc:Oc K cl){j:List En}{e:En}(u:g.es=j++[e]){t:FF}{ys:LD}{os:LQ}{rr:Nat}{gg:Bool}(N:Ks (λx=>x=P\/x∈fts fs) M M1)(hr:Z2 M1 rr=some ys)(rt:RF C1 M1 t ys os)(hC:∀x,C x->C1 x)(B:∀x,C1 x->(C x\/x∈fts fs\/(Lg M)<=x)/\x<Lg M1)(no:os.Nodup)(V:∀x∈os,(x∈fts fs\/(Lg M)<=x)/\x<Lg M1/\¬C1 x)(hP:Z2 M1 P=some ((g::r).reverse.map Fra.d))
  (z0:okF t) (hz:nl e.t+nl t<=400) {Q:DK} {Z:DX} (q:∀m,Ks (λx=>x=P\/x∈fts (fs++[g])) M m->TI cl M0 P (g.on (j++[e.told t os gg])::r) C1 m->Q .non m):W0 K [g.d,.ref rr,.bl gg] M1 Q Z:=by
 have ef:fts ((fs++[g])++r)=fts fs++(g.foot++fts r):=by simp[fts]
 have v:fts (fs++[g])=fts fs++g.foot:=by simp[fts]
 have A:P∉fts ((fs++[g])++r)/\(fts ((fs++[g])++r)).Nodup:=Ao.mp I.nd;rw[ef] at A;let(n1,n2,n3):=As.mp A.2;let(n4,n5,n6):=As.mp n2;have il:∀x∈P::fts ((fs++[g])++r),Lg M0<=x/\x<Lg M:=I.l;rw[ef] at il;have U:∀x,C x->(Lg M0)<=x/\x<Lg M/\x∉P::fts ((fs++[g])++r):=I.c;rw[ef] at U;have T:∀x∈g.foot,x<Lg M:=λx i=>(il x (by simp[i])).2;have gP:∀x∈g.foot,x≠P:=λx i z=>A.1 (by rw[<-z];simp[i]);have kg:∀x∈g.foot,M1[x]?=M[x]?:=λx i=>N.at' x (λz=>by
  rcases z with z|z
  .show gP x i z
  .show n3 x z x (by simp[i]) rfl) (T x i)
 have kc:∀x,C x->M1[x]?=M[x]?:=λx i=>N.at' x (λz=>(U x i).2.2 (by
  rcases z with rfl|z
  .show Ad
  .simp[z])) (U x i).2.1
 let(y0,gk):=I.f g 's';have W:=y0.keep hC kc kg;have gC:∀x∈g.foot,¬C1 x:=λx i z=>by
  rcases(B x z).1 with z|z|z
  .exact(U x z).2.2 (by simp[i])
  .show n3 x z x (by simp[i]) rfl
  .have:=T x i;lia
 have lM:=N.len;have ga:=W.a;have gb:=W.b;rw[u,Dc] at ga gb;let((R,x1,x2),x3,x4):=W.e e (by rw[u];simp);have em:∀F∈g.es,∀x∈F.foot,x∈g.foot:=λF h x i=>Ae _ (Ae _ (Ib.mpr (F,h,i)));have Y:e.c∈g.foot:=em e (by rw[u];simp) _ Ad;let(m1,m2):=Ao.mp n4;let(m3,S):=Ao.mp m2;have fm:∀x∈g.es.flatMap En.foot,x≠g.a/\x≠g.b:=λx i=>(λz=>m1 (by rw[<-z];show Ae _ i),λz=>m3 (by rw[<-z];show i));have ce:=fm e.c (Ib.mpr (e,by rw[u];simp,Ad));have ab:g.a≠g.b:=λz=>m1 (by rw[z];show Ad);have x0:=rt.len;have w0:=RF.len x2;show(g.p,g.k,g.x,_,g.a,g.b,e.c,rr,gg,e.g,_,_,R,ys,rfl,by rw[gk];show oc,gb,ga,x1,hr,Av ce.2,by have:nl e.t+nl t<=400:=hz;lia,?_);have L:Ks (λx=>x=P\/x∈fts (fs++[g])) M M1:=N.mono λx _ z=>z.imp_right λh=>by rw[v];simp[h]
 cases X:e.g with
 | false=>rw[nb Bf9];show q M1 L ?_;rw[show e.told t os gg=e by ext En.told;rw[X];rfl,<-u,show g.on g.es=g from rfl];have:=TI.up (fs:=fs) (fs':=[]) (r:=g::r) ↥I N hC B Io (λx i=>by cases i) (λf hf=>by cases hf) hP;show this
 | true=>
  rw[nc rfl];obtain⟨m,n⟩:∃m:Z3,m=(M1.set e.c (.lst (R++ys))).set g.b (.lst (j.map (λe=>D.bl e.g)++[.bl gg])):=(_,rfl);rw[<-n];have s:∀x,x≠e.c->x≠g.b->m[x]?=M1[x]?:=λx h1 h2=>by rw[n,Yc (Av h2),Yc (Av h1)]
  have J:Ks (λx=>x=P\/x∈fts (fs++[g])) M m:=by rw[n];show(L.set (.inl (.inr (by rw[v];simp[Y])))).set (.inl (.inr (by rw[v];show Bk _ (Ae _ Ad))))
  have r1:Z2 m e.c=some (R++ys):=by rw[n,Z8 (Av ce.2)];show Zd (Z9 (Z0 x1))
  have r2:Z2 m g.b=some (j.map (λe=>D.bl e.g)++[.bl gg]):=by rw[n];show Zd (by rw[Dm];show Z9 (Z0 gb))
  have l2:Lg m=Lg M1:=by rw[n];simp
  show q _ J ?_;have et:e.told t os gg=(e.c,TD.app e.t t,e.o++os,gg):=by ext En.told;rw[X];rfl
  have oe:∀x∈os,x∉g.foot/\x≠P:=λx i=>by
   show(λz=>?_,λz=>?_)
   .rcases(V x i).1 with w|w
    .show n3 x w x (by simp[z]) rfl
    .have:=T x z;lia
   .rcases(V x i).1 with w|w
    .show A.1 (by rw[<-z];simp[w])
    .have:=(il P Ad).2;lia
  have G:∀x,C1 x->m[x]?=M1[x]?:=λx i=>s x (λz=>gC _ Y (z ▸ i)) λz=>gC g.b (Ae _ Ad) (z ▸ i);have O:g.b∈g.foot:=Ae _ Ad;have eo:∀x∈e.o,x≠e.c:=λx i z=>by
   have:(e.c::e.o).Nodup:=by rw[u] at S;have:=(As.mp ↥S).2.1;simpa[En.foot] using this
   show(Ao.mp this).1 (z ▸ i)
  show TI.up (fs:=fs++[g]) (fs':=[g.on (j++[e.told t os gg])]) I J hC (λx i=>(?_,by rw[l2];show(B x i).2)) ?_ ?_ ?_ ?_
  .rcases(B x i).1 with z|z|z
   .show .inl z
   .show .inr (.inl (by rw[v];simp[z]))
   .show .inr (.inr z)
  .rw[show fts [g.on (j++[e.told t os gg])]=g.foot++os by rw[<-Zk1 (t:=t) (g:=gg) u X];simp[fts]];show As.mpr (n4,no,λx i y hy z=>(oe y hy).1 (z ▸ i))
  .intro x i;rw[show fts [g.on (j++[e.told t os gg])]=g.foot++os by rw[<-Zk1 (t:=t) (g:=gg) u X];simp[fts]] at i;rw[l2,v];rcases Am.mp i with i|i
   .exact(.inl (by simp[i]),by have:=T x i;lia,gC x i)
   .refine(?_,(V x i).2);rcases(V x i).1 with z|z
    .show .inl (by simp[z])
    .show .inr z
  .intro f hf;cases Aq.mp hf;show((?_,?_,λF E=>?_),gk)
   .change Z2 m g.a=some ((j++[e.told t os gg]).map λe=> .ref e.c);rw[Z6 (s g.a (Av ce.1) ab),Dc,et];show ga
   .change Z2 m g.b=some ((j++[e.told t os gg]).map λe=> .bl e.g);rw[Dc,et];show r2
   .replace E:F∈j++[e.told t os gg]:=E;rcases Am.mp E with E|E
    .let(w1,w2):=W.e F (by rw[u];simp[E]);show(w1.keep G λx i=>?_,w2);have mx:x∈g.es.flatMap En.foot:=Ib.mpr (F,by rw[u];simp[E],i);show s x (λz=>?_) (fm x mx).2;rw[u,List.flatMap_append] at S;show(As.mp S).2.2 x (Ib.mpr (F,E,i)) e.c (by simp[En.foot]) z
    .cases Aq.mp E;rw[et];show((R++ys,r1,?_),λd H=>?_,by change nl (TD.app e.t t)<=400;rw[Xx];show hz)
     .refine RF.app (rt.keep (λ_ z=>z) G t λx i=>s x (λz=>(oe x i).1 (z ▸ Y)) λz=>(oe x i).1 (z ▸ O)) e.t (RF.keep (λ_ z=>z) G e.t (λx i=>?_) x2);show s x (eo x i) (fm x (Ib.mpr (e,by rw[u];simp,Ae _ i))).2
     .rw[TD.acts_app] at H;rcases Am.mp H with H|H
      .show x3 d H
      .show z0 d H
  .have pP:m[P]?=M1[P]?:=s P (λz=>gP _ Y z.symm) λz=>gP _ O z.symm;rw[Z6 pP,hP];simp[Fra.d,Fra.on]
end
def LQ0(cl:Uc)(M0:Z3)(P rl:Nat)(a:LD)(fs:List Fra)(C:Nat->Prop)(M:Z3):Prop:=TI cl M0 P fs C M/\C rl/\Z2 M rl=some a
def LQ0.next{cl:Uc}{a:LD}{fs fs' r:List Fra}(L:LQ0 cl M0 P rl a (fs++r) C M)(ks:Ks (λx=>x=P\/x∈fts fs) M M')(d:∀x,C x->C' x)(I:TI cl M0 P fs' C' M'):LQ0 cl M0 P rl a fs' C' M':=by
 let(f,b,e):=L;show(I,d rl b,?_);have:=f.c rl b;rw[Z6 (ks.at' rl (λz=>this.2.2 ?_) this.2.1)]
 .show e
 .rcases z with rfl|z
  .show Ad
  .rw[List.flatMap_append];show Ae _ (Bs _ z)
structure Gs(K:Aa)(cl:Uc)(Γ:List DSp)(G:LD):Prop where
 e0:G[0]?=some (.gtup [.str "else"])
 e1:G[1]?=some (.gtup [.str "done"])
 e2:G[2]?=some (.gtup [.str "choice",.str "round",.str "part"])
 gc:G[3]?=some (.cls cl)
 oc:Oc K cl
 t:Γ[5]?=some (W0 K)
 b:Γ[6]?=some (Y7 K)
 cd:Γ[14]?=some (Yh K cl)
 ln:Γ[2]?=some Zn
 rn:Γ[8]?=some X6
section
variable{K:Aa}{cl:Uc}{Γ:List DSp}{G:LD}{M0 M:Z3}{P rl r0:Nat}{ls:LD}{r:List Fra}{C:Nat->Prop}{g:Fra}{R:DEnds}{x3 x4:Option D}
def Yn7(l:Ln):inD (.str (hw l)) [D.str "choice",.str "round",.str "part"]=l.beg:=by cases l<;>erw[hw,Ln.beg]<;>decide+kernel
def Pj(g:Fra)(r:List Fra):(g::r).reverse.map Fra.d=r.reverse.map Fra.d++[g.d]:=by simp
def Yh0(H:Gs K cl Γ G)(L:LQ0 cl M0 P rl ls (g::r) C M){l:Ln}{t:FF}(a:l.pl=true)(z:l.beg=false)(w:gg=decide (hw l="sum")){b:List En}(y:g.es=b++[e])(v:∀C M,RF C M t [l.g] [])(i:okF t)(hz:nl e.t+nl t<=400)
  (q:∀C' M' x3 x4,LQ0 cl M0 P rl ls (g.on (b++[e.told t [] gg])::r) C' M'->R.nx [↑r0,↑P,some l.g,x3,x4] M'):tss (K,Γ,G) noX Y3 R [↑r0,↑P,some l.g,x3,x4] M:=by
 have I:=L.1;have j:=I.o;delta Y3;rfl';erw[H.e0];show Qu ?_;have s:notE l=true:=by cases l<;>first | rfl | cases a
 have p:isDn l=false:=by cases l<;>first | rfl | cases a
 rw[s];rfl';erw[H.e1];show Jd ?_;rw[p];rw[show l.g=l.h from rfl,Ln.h_eq a];rfl';erw[H.e2,H.t,H.gc];show(rfl,rfl,?_);rw[Yn7,z];dsimp only;rw[nb Bf9];rw[Pj] at j;show Xe (Z0 j) (Wn _ _) ?_;have A:=(I.f g 's').2;change some (D.cls cl)=some (.cls g.k)/\_;rw[A];show(rfl,Z1 'd',?_);have m:Ks (λx=>x=P\/x∈fts []) M (M++[Cell.lst [D.tup (.str (hw l)::tlD l)]]):=Ks.new _ _;rw[<-Ln.h_eq a];rw[<-Ln.h_eq a] at m;show TI.tell (fs:=[]) (C1:=C) I H.oc y m (Z5 _ _ []) (v C _) (λ_ h=>h) (λx d=>(.inl d,by rw[Ac];have:=(I.c x d).2.1;lia)) Io (λx d=>by cases d) (by rw[Pj];show Z4 j) i hz λB u n=>?_;rw[<-w] at n;show q C B _ _ (L.next (fs:=[g]) ↥u (λ_ h=>h) n)
def C0(H:Gs K cl Γ G)(L:LQ0 cl M0 P rl ls r C M){l:Ln}(n:l.beg=true)(W:Lg r<=900)
  (q:∀C' M' x3 x4 f,LQ0 cl M0 P rl ls (f::r) C' M'->f.l=some l->(∃c,f.es=[(c,.nil,[],true)])->R.nx [↑r0,↑P,some l.g,x3,x4] M'):tss (K,Γ,G) noX Y3 R [↑r0,↑P,some l.g,x3,x4] M:=by
 have I:=L.1;have u:=I.o;have k:l.pl=true:=by cases l<;>first | rfl | cases n
 delta Y3;rfl';erw[H.e0];show Qu ?_;have F:notE l=true:=by cases l<;>first | rfl | cases k
 have E:isDn l=false:=by cases l<;>first | rfl | cases k
 rw[F];rfl';erw[H.e1];show Jd ?_;rw[E];rw[show l.g=l.h from rfl,Ln.h_eq k];rfl';erw[H.e2,H.t,H.gc];show(rfl,rfl,?_);rw[Yn7,n];dsimp only;rw[nc rfl];have V:=(I.l P Ad).2;show(Ze (Z0 u),cl,rfl,H.oc.l,H.oc.s,H.oc.g,λp j=>(_,Z4 (Z4 (Z4 u)),Za (by rw[Al,Dp];lia),?_));rw[<-Ln.h_eq k];obtain⟨b,a⟩:∃b:Z3,b=Ha (M++[Cell.lst []]++[Cell.lst [D.ref (Lg M)]]++[Cell.lst [D.bl true]]) P (.lst (r.reverse.map Fra.d++[.obj p cl j l.h (.ref (Lg M+1)) (.ref (Lg M+2))])):=(_,rfl);rw[<-a];have T:∀x,x≠P->x<Lg M->b[x]?=M[x]?:=λx S Q=>by rw[a,Yc (Av S),Y0 (by simp;lia),Y0 (by simp;lia),Y0 Q]
 have m:Ks (λx=>x=P\/x∈fts []) M b:=by rw[a];show(((Ks.new _ _).app _).app _).set (.inl (.inl rfl))
 have B:Z2 b (Lg M)=some []:=by rw[a,Z8 'o'];erw[An];show Z5 _ _ _
 have A:Z2 b (Lg M+1)=some [.ref (Lg M)]:=by rw[a,Z8 'o'];erw[An];rw[Zl];rfl
 have y:Z2 b (Lg M+2)=some [.bl true]:=by rw[a,Z8 'o'];erw[An];rw[Zl];rfl
 have w:Z2 b P=some (r.reverse.map Fra.d++[.obj p cl j l.h (.ref (Lg M+1)) (.ref (Lg M+2))]):=by rw[a];show Zd (by simp;lia)
 have U:Lg b=Lg M+3:=by rw[a];simp
 have v:fts [((p,cl,j,some l,Lg M+1,Lg M+2,[(Lg M,.nil,[],true)]):Fra)]=[Lg M+1,Lg M+2,Lg M]:=by simp[fts,Fra.foot,En.foot]
 show q C b _ _ (p,cl,j,some l,Lg M+1,Lg M+2,[(Lg M,.nil,[],true)]) (L.next (fs:=[]) m (λ_ h=>h) (TI.up (fs:=[]) (fs':=[(p,cl,j,some l,Lg M+1,Lg M+2,[(Lg M,.nil,[],true)])]) I m (λ_ h=>h) (λx i=>(.inl i,by have:=(I.c x i).2.1;lia)) ?_ ?_ ?_ ?_)) rfl (_,rfl)
 .rw[v];simp
 .intro x i;rw[v] at i;have:Lg M<=x/\x<Lg M+3:=by simp at i;lia
  show(.inr this.1,'o',λz=>by have:=(I.c x z).2.1;lia)
 .intro f J;cases Aq.mp J;show((A,y,λe N=>?_),rfl);cases Aq.mp N;show(([],B,rfl,rfl),(λd O=>by cases O),by change nl .nil<=400;rw[Zj];lia)
 .rw[w];simp[Fra.d]
def Yd6(H:Gs K cl Γ G)(L:LQ0 cl M0 P rl ls (g::r) C M)(v:g.es=[e])
  (q:∀C' M' x3 x4 c,LQ0 cl M0 P rl ls (g.on [e,(c,.nil,[],true)]::r) C' M'->R.nx [↑r0,↑P,some Ln.els.g,x3,x4] M'):tss (K,Γ,G) noX Y3 R [↑r0,↑P,some Ln.els.g,x3,x4] M:=by
 have I:=L.1;have B:=I.o;delta Y3;rfl';erw[H.e0];show Qu ?_;rw[show notE .els=false from rfl];erw[Bool.not_false,if_true];rw[Pj] at B;show Xe (Z0 B) (Wn _ _) ?_;let(F,E):=I.f g 's';have m:=I.fap;change G[3]?=some (.cls g.k)/\_;erw[H.b];have n:g.foot=g.a::g.b::(e.c::e.o):=by ext Fra.foot;rw[v];simp[En.foot]
 have J:=m.nd;rw[n] at J;let(O,n2):=Ao.mp J;let(n3,n4):=Ao.mp n2;have U:g.a≠g.b:=λz=>O (by rw[z];show Ad);have la:=(m.l g.a (by rw[n];simp)).1;have lb:=(m.l g.b (by rw[n];simp)).1;show(by rw[H.gc,E],g.p,g.k,g.x,_,g.a,g.b,_,_,rfl,by rw[E];show H.oc,F.b,F.a,U,by rw[Al,v];change 1<=1000;lia,by rw[Al,v];change 1<=1000;lia,?_);obtain⟨s,j⟩:∃s:Z3,s=Ha (Ha (M++[Cell.lst []]) g.a (.lst (g.es.map (λe=>D.ref e.c)++[.ref (Lg M)]))) g.b (.lst (g.es.map (λe=>D.bl e.g)++[.bl true])):=(_,rfl);rw[<-j];have u:∀x,x≠g.a->x≠g.b->x<Lg M->s[x]?=M[x]?:=λx h1 h2 h3=>by rw[j,Yc (Av h2),Yc (Av h1),Y0 h3]
 have t:fts [g]=g.foot:=by simp[fts]
 have Q:Ks (λx=>x=P\/x∈fts [g]) M s:=by rw[j];show(((Ks.new _ _).set (.inl (.inr (by rw[t,n];simp)))).set (.inl (.inr (by rw[t,n];simp))))
 have Z:Z2 s g.a=some [.ref e.c,.ref (Lg M)]:=by rw[j,Z8 (Av U),Zd (by rw[Ac];lia),v];rfl
 have Y:Z2 s g.b=some [.bl e.g,.bl true]:=by rw[j,Zd (by rw[Dm,Ac];lia),v];rfl
 have X:Z2 s (Lg M)=some []:=by rw[j,Z8 'o',Z8 'o'];show Z5 _ _ []
 have ll:Lg s=Lg M+1:=by rw[j];simp
 have A:∀x∈g.foot,¬C x:=λx i=>(m.l x i).2;have N:∀x∈g.foot,x≠P:=λx i z=>(Ao.mp I.nd).1 (by rw[<-z];show Bs _ i);have kf:∀x∈e.c::e.o,s[x]?=M[x]?:=λx i=>u x (λz=>O (by rw[<-z];show Ae _ i)) (λz=>n3 (by rw[<-z];show i)) (m.l x (by rw[n];show Ae _ (Ae _ i))).1;have kc:∀x,C x->s[x]?=M[x]?:=λx i=>u x (λz=>A _ (by rw[n];simp) (z ▸ i)) (λz=>A _ (by rw[n];simp) (z ▸ i)) (m.c x i);have S:fts [g.on [e,(Lg M,.nil,[],true)]]=g.foot++[Lg M]:=by rw[n];simp[fts,Fra.foot,Fra.on,En.foot]
 show q C s _ _ (Lg M) (L.next (fs:=[g]) Q (λ_ h=>h) (TI.up (fs:=[g]) (fs':=[g.on [e,(Lg M,.nil,[],true)]]) I Q (λ_ h=>h) (λx i=>(.inl i,by have:=m.c x i;lia)) ?_ ?_ ?_ ?_))
 .rw[S];show As.mpr (m.nd,by simp,λx i y hy z=>?_);cases Aq.mp hy;have:=(m.l x i).1;lia
 .intro x i;rw[S] at i;rw[t];rcases Am.mp i with i|i
  .exact(.inl i,by have:=(m.l x i).1;lia,A x i)
  .cases Aq.mp i;show(.inr (na _),'o',λz=>by have:=m.c _ z;lia)
 .intro f hf;cases Aq.mp hf;show((Z,Y,λT w=>?_),E);replace w:T∈[e,(Lg M,.nil,[],true)]:=w;rcases Ab.mp w with rfl|w
  .let(W,V):=F.e T (by rw[v];simp);show(W.keep kc kf,V)
  .cases Aq.mp w;show(([],X,rfl,rfl),(λd hd=>by cases hd),by change nl .nil<=400;rw[Zj];lia)
 .have lP:=(I.l P Ad).2;rw[Z6 (u P (Av (N _ (by rw[n];simp))) (Av (N _ (by rw[n];simp))) lP),B];simp[Fra.d,Fra.on]
def Yc9(H:Gs K cl Γ G){f:Fra}(L:LQ0 cl M0 P rl ls (f::g::r) C M){t:FF}(J:Sh f t gg)(S:g.es=m++[e])(p:okF t)(hz:nl e.t+nl t<=400)
  (q:∀C' M' x3 x4 os,LQ0 cl M0 P rl ls (g.on (m++[e.told t os gg])::r) C' M'->R.nx [↑r0,↑P,some Ln.don.g,x3,x4] M'):tss (K,Γ,G) noX Y3 R [↑r0,↑P,some Ln.don.g,x3,x4] M:=by
 have I:=L.1;have s:=I.o;delta Y3;rfl';erw[H.e0];show Qu ?_;rw[show notE .don=true from rfl];erw[Bool.not_true,Bool.false_eq_true,if_false];erw[H.e1];show Jd ?_;rw[show isDn .don=true from rfl];erw[if_true];rw[Pj] at s;let(X,Y):=I.f f 's';have W:=(I.f g 's').2;have v:=I.fap;erw[H.cd];have N:=(Ao.mp I.nd).1;have O:=(I.l P Ad).2;have E:∀x∈f.foot,x≠P:=λx a z=>N (by rw[<-z];show Bs _ a);have Z:∀x,C x->x≠P:=λx a z=>(I.c x a).2.2 (by rw[z];show Ad);have b:∀x,x≠P->(M.set P (.lst ((g::r).reverse.map Fra.d)))[x]?=M[x]?:=λx a=>Yc (Av a);show(Ze (Z0 s),_,f.d,s,by simp,?_);rw[Kr];have i:(M.set P (.lst ((g::r).reverse.map Fra.d))).length=Lg M:=by simp
 have y:Z2 (M.set P (.lst ((g::r).reverse.map Fra.d))) P=some ((g::r).reverse.map Fra.d):=Zd O;have j:Ks (λx=>x=P\/x∈fts [f]) M (M.set P (.lst ((g::r).reverse.map Fra.d))):=(Ks.refl M).set (.inl (.inl rfl));have w:fts [f]=f.foot:=by simp[fts]
 show(C,f,t,gg,rfl,Y,H.oc,X.keep (λ_ h=>h) (λx a=>b x (Z x a)) (λx a=>b x (E x a)),(v.nd,λx a=>by rw[i];show v.l x a,λx a=>by rw[i];show v.c x a),J,λM2 rr h=>?_);generalize M.set P (.lst ((g::r).reverse.map Fra.d))=M1 at b i y j h;let(F,ys,os,u,V,U,D,B,T,A):=h;have n:Z2 M2 P=some ((g::r).reverse.map Fra.d):=by rw[Z6 (u.at' P (λz=>E P z rfl) 'o')];show y
 rfl';show Xe (Z0 (by rw[Pj] at n;show n)) (Wn _ _) ?_;change G[3]?=some (.cls g.k)/\_;erw[H.t];show(by rw[H.gc,W],?_);have lM:=u.len;show TI.tell (fs:=[f]) (C1:=F) I H.oc S (j.trans (u.mono λx _ z=> .inr (by rw[w];show z))) V U D (λx a=>(?_,(B x a).2)) T (λx a=>(?_,(A x a).2)) n p hz λM3 Q I3=>?_
 .rw[w,<-i];show(B x a).1
 .rw[w,<-i];show(A x a).1
 .show q F M3 _ _ os (L.next (fs:=[f,g]) Q D I3)
end
def Zr2(e:En):e.told .nil [] true=e:=by
 let(c,t,o,g):=e;cases g
 .rfl
 .unfold En.told;simp[Y96]
def Zc6(e:En)(t b:FF)(os a:LQ)(g2:Bool):(e.told t os true).told b a g2=e.told (TD.app t b) (os++a) g2:=by
 let(c,d,o,g):=e;cases g
 .rfl
 .unfold En.told;simp[Gj]
def Z09(e:En)(t b:FF)(os a:LQ)(g2:Bool):(e.told t os false).told b a g2=e.told t os false:=by
 let(c,d,o,g):=e;cases g
 .rfl
 .rfl
def Zb6(e:En)(t:FF)(os:LQ)(g:Bool):nl (e.told t os g).t<=nl e.t+nl t:=by
 ext En.told;split
 .change nl (TD.app e.t t)<=_;rw[Xx];show na _
 .lia
def Zg9{d:Dl}{y a n n' r:FF}(b:nl a<=nl y)(c:nl n'<=nl n)(z:TD.isNil n=true->n'= .nil):nl (.ch d a n' .nil)+nl r<=nl (.ch d y n r):=by
 rw[R6,R6,Zj];by_cases h:TD.isNil n=true
 .rw[nc h,z h,nc (show TD.isNil (.nil:FF)=true from rfl)];lia
 .rw[nb h];split<;>lia
def Zc2(s:FF):nl (TD.td s).1<=nl s:=by
 induction s with
 | nil=>show na _
 | act d s a=>erw[TD.td];rw[Vj,Vj];lia
 | fin d s a=>erw[TD.td];rw[Sj,Sj,Zj];lia
 | lv n s a=>erw[TD.td];rw[Z72,Z72,Zj];lia
 | ag n s a=>erw[TD.td];rw[Ca,Ca,Zj];lia
 | ch d y n s c g a=>
  have:=Zg9 (d:=d) (r:=s) c g λz=>by rw[TD.isNil_eq z];rfl
  erw[TD.td];split
  .have e:=R6 d (TD.td y).1 (TD.td n).1 (TD.td s).1;rw[R6,Zj] at this;dsimp only;lia
  .dsimp only;lia
 | rd k b s f a=>
  have:=Zc7 k (TD.td b).1 (TD.td b).2;have e:=F8 k b s;erw[TD.td];split
  .dsimp only;rw[Xx];lia
  .dsimp only;lia
 | pt k b s f a=>
  have:=Cg k (TD.td b).1 (TD.td b).2;have e:=E6 k b s;erw[TD.td];split
  .dsimp only;rw[Xx];lia
  .dsimp only;lia
def Z16{s:FF}(h:okF s):okF (TD.td s).1:=λd a=>h d ((TD.acts_td s).subset a)
section
variable{K:Aa}{cl:Uc}{Γ:List DSp}{G:LD}{M0:Z3}{P rl r0:Nat}{xs:LD}{R:DEnds}
abbrev LP(K:Aa)(Γ:List DSp)(G:LD)(rl:Nat)(xs:LD)(R:DEnds)(l:LD):DEnv->Z3->Prop:=forD (.lst rl) xs [2] (λR a M=>tss (K,Γ,G) noX Y3 R a M) l R
def LP.step{l:Ln}{a:LD}{fs:List Fra}{f d c:Option D}(L:LQ0 cl M0 P rl xs fs C M)(h:∀e,(∀b M,LP K Γ G rl xs R a b M->e.nx b M)->tss (K,Γ,G) noX Y3 e [↑r0,↑P,some l.g,d,c] M):LP K Γ G rl xs R (l.g::a) [↑r0,↑P,f,d,c] M:=by show(Z0 L.2.2,?_);rw[tg_one];show h _ λ_ _ z=>z
def Rn(K:Aa)(cl:Uc)(Γ:List DSp)(G:LD)(M0:Z3)(P rl r0:Nat)(xs:LD)(R:DEnds)(s:FF):Prop:=∀(g:Fra) (r:List Fra) (b:List En) (e:En) (C:Nat->Prop) (M:Z3) (a:LD) (f d c:Option D),LQ0 cl M0 P rl xs (g::r) C M->g.es=b++[e]->okF s->nl e.t+nl s<=400->(Lg r)+nl s<=600->
  (∀j h f d c i,LQ0 cl M0 P rl xs (g.on (b++[e.told (TD.td s).1 i (TD.td s).2])::r) j h->LP K Γ G rl xs R a [↑r0,↑P,f,d,c] h)->LP K Γ G rl xs R ((lns s).map Ln.g++a) [↑r0,↑P,f,d,c] M
def Rn.leaf(H:Gs K cl Γ G){l:Ln}{t s a:FF}(p:Rn K cl Γ G M0 P rl r0 xs R a)(w:l.pl=true)(z:l.beg=false)(x:gg=decide (hw l="sum"))(u:∀C M,RF C M t [l.g] [])(h:okF s->okF t/\okF a)(v:lns s=l::lns a)(O:nl t+nl a<=nl s)(D:gg=true->TD.td s=#v[TD.app t (TD.td a).1,(TD.td a).2])(B:gg=false->TD.td s=#v[t,false]):Rn K cl Γ G M0 P rl r0 xs R s:=by
 intro g r i e C M f j d c L y n J N q;rw[v,Aj,Dh];show LP.step L λQ A=>Yh0 H L w z x y u (h n).1 'o' λI E d c F=>A _ _ ?_;have:=Zb6 e t [] gg;show p _ _ i _ I E f _ d c F rfl (h n).2 'o' 'o' λm k j d c o b=>?_;replace b:LQ0 cl M0 P rl xs (g.on (i++[(e.told t [] gg).told (TD.td a).1 o (TD.td a).2])::r) m k:=b;cases gg with
 | true=>rw[Zc6] at b;rw[D rfl] at q;show q m k j d c _ b
 | false=>rw[Z09] at b;rw[B rfl] at q;show q m k j d c [] b
def Rn.around(H:Gs K cl Γ G){b:FF}(s:Rn K cl Γ G M0 P rl r0 xs R b){f g:Fra}{a:LD}{i h d:Option D}{t s':FF}(L:LQ0 cl M0 P rl xs (f::g::r) C M)(o:Sh f t gg)(v:g.es=c++[e])(l:okF t)(p:okF b)(hz:nl e.t+nl t+nl b<=400)(u:Lg r+nl b<=600)(y:gg=true->#v[s',g']=#v[TD.app t (TD.td b).1,(TD.td b).2])(x:gg=false->#v[s',g']=#v[t,false])
  (q:∀C' M' i h d os,LQ0 cl M0 P rl xs (g.on (c++[e.told s' os g'])::r) C' M'->LP K Γ G rl xs R a [↑r0,↑P,i,h,d] M'):LP K Γ G rl xs R (Ln.don.g::((lns b).map Ln.g++a)) [↑r0,↑P,i,h,d] M:=by
 show LP.step L λA w=>Yc9 H L o v l 'o' λC' M' h d os z=>w _ _ ?_;have:=Zb6 e t os gg;show s _ _ c _ C' M' a _ h d z rfl p 'o' u λn m i h d k j=>?_;replace j:LQ0 cl M0 P rl xs (g.on (c++[(e.told t os gg).told (TD.td b).1 k (TD.td b).2])::r) n m:=j;cases gg with
 | true=>rw[Zc6] at j;let(rfl,rfl):=Prod.mk.inj (y rfl);show q n m i h d _ j
 | false=>rw[Z09] at j;let(rfl,rfl):=Prod.mk.inj (x rfl);show q n m i h d os j
def Yl8{d:Dl}{y n r:FF}(h:okF (.ch d y n r)):d.ok/\okF y/\okF n/\okF r:=(h d (by simp[TD.acts]),λd a=>h d (by simp[TD.acts,a]),λd a=>h d (by simp[TD.acts,a]),λd a=>h d (by simp[TD.acts,a]))
def Yr2{k:Nat}{b r:FF}(h:okF (.rd k b r)):okF b/\okF r:=(λd a=>h d (by simp[TD.acts,a]),λd a=>h d (by simp[TD.acts,a]))
def Ys8{k:Nat}{b r:FF}(h:okF (.pt k b r)):okF b/\okF r:=(λd a=>h d (by simp[TD.acts,a]),λd a=>h d (by simp[TD.acts,a]))
def hwl:false=decide (("leave":Str)="sum"):='k'
def hwa:false=decide (("again":Str)="sum"):='k'
def Yo9(H:Gs K cl Γ G)(s:FF):Rn K cl Γ G M0 P rl r0 xs R s:=by
 induction s with
 | nil=>intro g r w e C M v A m j L B F X Y q;show q C M A m j [] ?_;change LQ0 cl M0 P rl xs (g.on (w++[e.told .nil [] true])::r) C M;rw[Zr2,<-B];show L
 | act d s o=>show Rn.leaf H (l:= .sum d.x d.a d.s d.b) (t:= .act d .nil) (gg:=true) o rfl rfl (by change true=decide (("sum":Str)="sum");show(decide_eq_true rfl).symm) (λC M=>([],rfl,rfl,rfl)) (λh=>(λx i=>h x (by simp[TD.acts] at i |-;simp[i]),λx i=>h x (by simp[TD.acts,i]))) (Xf d s) (by rw[Vj,Vj,Zj];lia) (λ_=>rfl) (λz=>by cases z)
 | fin d s o=>show Rn.leaf H (l:= .fin) (t:= .fin d .nil) (gg:=false) o rfl rfl 'k' (λC M=>([],rfl,rfl,rfl)) (λh=>(λx i=>h x (by simp[TD.acts] at i |-;simp[i]),λx i=>h x (by simp[TD.acts,i]))) (Xh d s) (by rw[Sj,Sj,Zj];lia) (λz=>by cases z) (λ_=>rfl)
 | lv n s o=>show Rn.leaf H (l:= .lve n) (t:= .lv n .nil) (gg:=false) o rfl rfl hwl (λC M=>([],rfl,rfl,rfl)) (λh=>((λx i=>by cases i),h)) (V6 n s) (by rw[Z72,Z72,Zj];lia) (λz=>by cases z) (λ_=>rfl)
 | ag n s o=>show Rn.leaf H (l:= .agn n) (t:= .ag n .nil) (gg:=false) o rfl rfl hwa (λC M=>([],rfl,rfl,rfl)) (λh=>((λx i=>by cases i),h)) (V7 n s) (by rw[Ca,Ca,Zj];lia) (λz=>by cases z) (λ_=>rfl)
 | ch d y n s iy iN o=>
  intro g r w e C M v A m j L B F X Y q;let(od,oy,on,p):=Yl8 F;have V:=R6 d y n s;have ty:=Zc2 y;have tn:=Zc2 n;have z0:=Zg9 (d:=d) (r:=s) ty tn λz=>by rw[TD.isNil_eq z];rfl
  have u:okF (.ch d (TD.td y).1 (TD.td n).1 .nil):=λx i=>by
   erw[TD.acts,Ab,Am,Ia,or_false] at i;rcases i with rfl|i|i
   .show od
   .show Z16 oy x i
   .show Z16 on x i
  have e1:((TD.td y).2 || (TD.td n).2)=true->#v[(TD.td (.ch d y n s)).1,(TD.td (.ch d y n s)).2]=#v[TD.app (.ch d (TD.td y).1 (TD.td n).1 .nil) (TD.td s).1,(TD.td s).2]:=λz=>by erw[TD.td];rw[nc z];rfl
  have e2:((TD.td y).2 || (TD.td n).2)=false->#v[(TD.td (.ch d y n s)).1,(TD.td (.ch d y n s)).2]=#v[.ch d (TD.td y).1 (TD.td n).1 .nil,false]:=λz=>by erw[TD.td];rw[nb (by rw[z];decide)]
  rw[Wc,Aj,Dh];show LP.step L λR' D=>C0 H L rfl (by rw[Af];lia) λT Q m j f S I (c,O)=>D _ _ ?_;rw[Dc,An];show iy f (g::r) [] (c,.nil,[],true) T Q _ _ m j S O oy (by change nl .nil+_<=_;rw[Zj];lia) (by rw[Af];lia) λC2 M2 A m j J E=>?_;rw[Dc,An,Aj,Dh];by_cases U:TD.isNil n=true
  .rw[nc U,Dz,Ho];have Z:=TD.isNil_eq U;subst Z;show Rn.around H o E (t:= .ch d (TD.td y).1 .nil .nil) (gg:=true) (.inl (d,_,I,rfl,rfl,rfl)) B u p (by have:nl (.ch d (TD.td y).1 .nil .nil)+nl s<=_:=z0;lia) 'o' (λ_=>e1 (by show((TD.td y).2 || true)=true;simp)) (λz=>by cases z) q
  .rw[nb U,Aj,Dh];rw[nb U] at V;show LP.step E λR' D=>Yd6 H E rfl λC3 M3 m j c2 L3=>D _ _ ?_;show iN _ (g::r) [_] (c2,.nil,[],true) C3 M3 _ _ m j L3 rfl on (by change nl .nil+_<=_;rw[Zj];lia) (by rw[Af];lia) λC4 M4 A m j y0 L4=>?_;show Rn.around H o L4 (t:= .ch d (TD.td y).1 (TD.td n).1 .nil) (gg:=(TD.td y).2 || (TD.td n).2) (.inr (.inl (d,_,_,I,rfl,rfl,rfl))) B u p 'o' 'o' e1 e2 q
 | rd k b s W o=>
  intro g r w e C M v A m j L B F X Y q;let(N,p):=Yr2 F;have V:=F8 k b s;have tb:=Zc2 b;have tc:=Zc7 k (TD.td b).1 (TD.td b).2;have u:okF (TD.clsR k (TD.td b).1 (TD.td b).2).1:=λx i=>by rw[TD.acts_clsR] at i;show Z16 N x i
  rw[W7,Aj,Dh];show LP.step L λR' D=>C0 H L rfl (by rw[Af];lia) λT Q m j f S I (c,O)=>D _ _ ?_;rw[Dc,An];show W f (g::r) [] (c,.nil,[],true) T Q _ _ m j S O N (by change nl .nil+_<=_;rw[Zj];lia) (by rw[Af];lia) λC2 M2 A m j J E=>?_;rw[Aj,Dh];show Rn.around H o E (t:=(TD.clsR k (TD.td b).1 (TD.td b).2).1) (gg:=(TD.clsR k (TD.td b).1 (TD.td b).2).2) (.inr (.inr (.inr (k,_,I,rfl,rfl,rfl)))) B u p 'o' 'o' (λz=>by erw[TD.td];rw[nc z]) (λz=>by erw[TD.td];rw[nb (by rw[z];decide)]) q
 | pt k b s W o=>
  intro g r w e C M v A m j L B F X Y q;let(N,p):=Ys8 F;have V:=E6 k b s;have tb:=Zc2 b;have tc:=Cg k (TD.td b).1 (TD.td b).2;have u:okF (TD.clsP k (TD.td b).1 (TD.td b).2).1:=λx i=>by rw[TD.acts_clsP] at i;show Z16 N x i
  rw[W5,Aj,Dh];show LP.step L λR' D=>C0 H L rfl (by rw[Af];lia) λT Q m j f S I (c,O)=>D _ _ ?_;rw[Dc,An];show W f (g::r) [] (c,.nil,[],true) T Q _ _ m j S O N (by change nl .nil+_<=_;rw[Zj];lia) (by rw[Af];lia) λC2 M2 A m j J E=>?_;rw[Aj,Dh];show Rn.around H o E (t:=(TD.clsP k (TD.td b).1 (TD.td b).2).1) (gg:=(TD.clsP k (TD.td b).1 (TD.td b).2).2) (.inr (.inr (.inl (k,_,I,rfl,rfl,rfl)))) B u p 'o' 'o' (λz=>by erw[TD.td];rw[nc z]) (λz=>by erw[TD.td];rw[nb (by rw[z];decide)]) q
end
def Zq:DSp:=λf M Q _=>∃(C:Nat->Prop) (s:FF) (r:Nat) (e:LD),f=[.ref r]/\Z2 M r=some e/\RTs C M (ofF s) e/\(∀c,C c->c<Lg M)/\okF s/\nl s<=400/\(TD.nums (TD.td s).1).Nodup/\(∀n,TD.hl n (TD.td s).1=true->n∈TD.nums (TD.td s).1)/\(∀n,TD.ha n (TD.td s).1=true->n∈TD.nums (TD.td s).1)/\
 ∀g a d b,Lg M<=b->Kp M a->Fm g a b (ofF (TD.ren (TD.nums (TD.td s).1).idxOf (TD.td s).1)) d->Q (.ref d) a
def Zq7{Γ G}{cl:Uc}(H:Gs K cl Γ G):Rd K Γ G Zq Z24 Bg:=by
 rintro N M Q Z ⟨C,s,r,es,rfl,hr,V,S,ok,hz,nd,hl,ha,q⟩;delta Z24 Bg;generalize hB:Rq=B1;rfl';erw[H.ln,H.gc];show(cl,rfl,H.oc.l,H.oc.s,H.oc.g,λp t=>(Z1 'd',?_));have eP:(M++[Cell.lst []]++[Cell.lst [D.ref (Lg M)]]++[Cell.lst [D.bl true]]:Z3).length=Lg M+3:=by simp
 rw[eP];obtain⟨j,i⟩:∃j:Z3,j=M++[Cell.lst []]++[Cell.lst [D.ref (Lg M)]]++[Cell.lst [D.bl true]]++[Cell.lst [D.obj p cl t .non (.ref (Lg M+1)) (.ref (Lg M+2))]]:=(_,rfl);rw[<-i];have r1:Z2 j (Lg M)=some []:=by erw[i,An];show Z5 _ _ _
 have Y:Z2 j (Lg M+1)=some [.ref (Lg M)]:=by erw[i,An];rw[Zl];rfl
 have X:Z2 j (Lg M+2)=some [.bl true]:=by erw[i,An];rw[Zl];rfl
 have W:Z2 j (Lg M+3)=some [D.obj p cl t .non (.ref (Lg M+1)) (.ref (Lg M+2))]:=by erw[i,An];rw[Zl];rfl
 have w:Kp M j:=by rw[i];show(((Ks.new _ _).app _).app _).app _
 have l1:Lg j=Lg M+4:=by rw[i];simp
 show(C,ofF s,r,es,rfl,w.pW hr,V.keep (λ_ h=>h) (w.cl S),λc hc=>ng (S c hc) w.len,by change nl s<=1000;lia,λO v m J l2=>?_);rfl';show(_,Z0 J,?_);have lr:=Z9 (Z0 J);have lM:=m.len;have f0:Fok (λx=>x=v) O (p,cl,t,none,Lg M+1,Lg M+2,[(Lg M,.nil,[],true)]):=(m.pW Y,m.pW X,λe he=>by
  cases Aq.mp he;show(([],m.pW r1,rfl,rfl),(λd hd=>by cases hd),by change nl .nil<=400;rw[Zj];lia))
 have E:fts [((p,cl,t,none,Lg M+1,Lg M+2,[(Lg M,.nil,[],true)]):Fra)]=[Lg M+1,Lg M+2,Lg M]:=by simp[fts,Fra.foot,En.foot]
 have I0:TI cl M (Lg M+3) [(p,cl,t,none,Lg M+1,Lg M+2,[(Lg M,.nil,[],true)])] (λx=>x=v) O:=by
  show(w.trans m,m.pW W,λf hf=>?_,?_,λx n=>?_,λx n=>?_)
  .cases Aq.mp hf;show(f0,rfl)
  .show(_::fts _).Nodup;rw[E];simp
  .subst n;change _/\_/\_∉_::fts _;rw[E];show('o',lr,by simp;lia)
  .replace n:x∈(Lg M+3)::fts _:=n;rw[E] at n;simp at n;lia
 have u:=Yo9 (K:=K) (cl:=cl) (Γ:=Γ) (G:=G) (M0:=M) (P:=Lg M+3) (rl:=v) (r0:=r) (xs:=(lns s).map Ln.g) (R:={nx:=λy U=>tss (K,Γ,G) noX B1 {nx:=λ_ M=>Q .non M,rt:=Q} y U,rt:=Q}) H s (p,cl,t,none,Lg M+1,Lg M+2,[(Lg M,.nil,[],true)]) [] [] (Lg M,.nil,[],true) (λx=>x=v) O [] none none none (I0,rfl,J) rfl ok (by change nl .nil+_<=_;rw[Zj];lia) (by change 0+_<=_;lia);rw[Au] at u;show u λC' U x2 x3 x4 os L=>(Z0 L.2.2,?_);subst hB;have I:=L.1;let(T,_):=I.f _ Ad;have fa:=I.fap;delta Rq;rfl';show ix_l (k:=0) (Z0 I.o) rfl ?_;show H.oc.fs (ix_l (k:=0) (Z0 T.a) rfl ?_);erw[H.rn];have B:=T.bd (e:=(Lg M,(TD.td s).1,os,(TD.td s).2)) fa rfl;let(A,h1,h2,h3,h4):=B.rts;show(_,(TD.td s).1,Lg M,A,rfl,h1,h3,h4,B.z,nd,hl,ha,λC2 M3 r' b hb k3 F=>q C2 M3 r' b (nh I.k.len hb) (I.k.trans k3) F)
def mixN(c k:Int):Int:=(c % 2147483647 * 48271+7919 * k * k+104729) % 2147483647
def mix(c k:Int):Int:=mixN c k * mixN c k % 2147483629
def Yf6(c k:Int):0<=mixN c k:=Kj _ 'd'
def Y80(c k:Int):mixN c k<2147483647:=Kh _ 'd'
def Z82(a:List Int)(k:Nat):Int:=a.getD k 0
def W8:DSp:=λc M Q _=>∃(a:Nat) (b:List Int) (k:Nat),c=[.ref a,.int k]/\Zg M a=some (b.map .int)/\Q (.int (Z82 b k)) M
def Yq:DSp:=λa M Q _=>∃c k:Int,a=[.int c,.int k]/\0<=k/\k<=1000/\Q (.int (mix c k)) M
def nms(c:Int):LS:=if c % 4=0 then ["x","y","z","w"] else if c % 4=1 then ["ab","aa","bb","ba"] else if c % 4=2 then ["q1","q","q11","q2"] else ["sum1aaaa","sum1aaab","sum2aaaa","tum1aaaa"]
def Yf9(c:Int):(nms c).length=4:=by ext nms;repeat (first | rfl | split)
def Yr0(c:Int):∀x∈nms c,Db (.str x)=true:=by
 ext nms;split
 .decide+kernel
 split
 .decide+kernel
 split
 .decide+kernel
 .decide+kernel
def Fn(l:LS)(i:Int):Str:=l.getD i.toNat ""
def Fx(u c:Int)(l:LS):Opd:=if u % 8=0 then .no (c % (2 * 10 ^ 18+1) - 10 ^ 18) else if u % 8<3 then .no (u / 8 % 9 - 3) else .nm (Fn l (u / 8 % 4))
def Tc(u c:Int)(l:LS):Bool×Dl:=if u / 97 % 2=0 then#v[true,(Fn l (u / 389 % 4),Fx (u / 16) c l,Fn ["+","-","/","rest","&","^"] (u / 193 % 6),Fx (u / 1024) (c / 3) l)] else#v[false,("x",Fx (u / 16) c l,Fn ["<","="] (u / 193 % 2),Fx (u / 1024) (c / 3) l)]
def Yj5(x:Bool×Dl):Ln:=if x.1 then x.2.l else .cond x.2.a x.2.s x.2.b
def X5:DSp:=λb M Q _=>∃c:Int,b=[.int c]/\∀a r,Kp M a->Zg a r=some ((nms c).map D.str)->Q (.ref r) a
def Zy:DSp:=λa M Q _=>∃(u c:Int) (g:Nat) (l:LS),a=[.int u,.int c,.ref g]/\(Lg l)=4/\Zg M g=some (l.map D.str)/\Q (Fx u c l).d M
def W3:DSp:=λb M Q _=>∃(u c:Int) (g:Nat) (l:LS),b=[.int u,.int c,.ref g]/\(Lg l)=4/\Zg M g=some (l.map D.str)/\∀a,Kp M a->Q (Yj5 (Tc u c l)).d a
def Jz{l:LS}{i m:Int}(c:m=Lg l)(h0:0<m):atI (l.map D.str) (i % m)=some (.str (Fn l (i % m))):=by have b:=Kj i (show m≠0 by lia);have d:=Kh i h0;show Y13 b ?_;have a:(i % m).toNat<Lg l:='o';rw[Dj,Ah a];ext Fn;rw[Dd,Ah a];rfl
def Qp{l:LS}{i m:Int}(b:m=Lg l)(h0:0<m):Fn l (i % m)∈l:=by have d:=Kj i (show m≠0 by lia);have c:=Kh i h0;have a:(i % m).toNat<Lg l:='o';ext Fn;rw[Dd,Ah a];show Hs a
def Nu{l:LS}(a:Lg l=4)(h:∀x∈l,Db (.str x)=true)(u c:Int):Db (Fx u c l).p=true:=by
 ext Fx;split
 .rfl
 split
 .rfl
 .show h _ (Qp 'o' 'd')
def Ze2{l:LS}(a:Lg l=4)(h:∀x∈l,Db (.str x)=true)(u c:Int):(Tc u c l).2.ok:=by
 have d:∀x∈(["+","-","/","rest","&","^"]:LS),Db (.str x)=true:='k';have b:∀x∈(["<","="]:LS),Db (.str x)=true:='k';ext Tc;split
 .exact(h _ (Qp 'o' 'd'),Nu a h _ _,d _ (Qp 'd' 'd'),Nu a h _ _)
 .exact((show Db (.str "x")=true by decide+kernel),Nu a h _ _,b _ (Qp 'd' 'd'),Nu a h _ _)
def Y45{Γ G}:Rd K Γ G W8 Zh6 Zn0:=by
 rintro d M Q Z ⟨a,b,k,rfl,f,q⟩;delta Zh6 E7 Zn0;rfl';show Zv f ?_;rfl';split
 .rename_i h;have c:k<Lg b:=by simpa using h
  show ix_l f (by rw[Dj,Ah c];rfl) ?_;have e:Z82 b k=b[k]:=by ext Z82;rw[Dd,Ah c];rfl
  rw[e] at q;show q
 .rename_i h;have c:Lg b<=k:=by simpa using h
  have e:Z82 b k=0:=by ext Z82;rw[Dd,Ip c];rfl
  rw[e] at q;show q
def Y01{Γ G}:Rd K Γ G Yq Z29 Z12:=by
 rintro a M Q Z ⟨c,k,rfl,f,e,q⟩;delta Z29 Z12;rfl';rw[qm 'd',qm 'd'];have d:=Yf6 c k;have b:=Y80 c k;show(mulR 'd' 'd',mulL 'd' 'd',mulR 'o' 'o',?_);rfl'
 try rw[qm 'd']
 show(mulL (by change -(2 ^ 64)<mixN c k;lia) (by change mixN c k<2 ^ 64;lia),q)
def Zy4{Γ G}:Rd K Γ G X5 Z28 Z18:=by
 rintro i M Q Z ⟨c,rfl,q⟩;delta Z28 Z18;rfl';erw[An,Dh,Ho,Ac,Af,Dy];show(Z1 'd',Z1 'd',Z1 'd',Z1 'd',?_);show(Ze (by rw[R9];rfl),Z1 'd',_,by rw[Zl];rfl,Za 's',?_);rw[Zu3];erw[List.set_cons_succ,List.set_cons_zero,Dh,Ho];rw[qm (show(0:Int)<4 by decide)];have h:∀a b c d e:Cell,Zg (M++[a,b,c,d,e]) (Lg M+(0+1+1+1))=Zg [a,b,c,d,e] 3:=λa b c d e=>R9 M _ 3;have f:∀(N:Z3) (k:Nat),Zg N k=some ((nms c).map D.str)->Q (.ref (Lg M+k)) (M++N):=λN k j=>q _ _ (Ks.new _ _) (by rw[R9];show j);have g:c % 4=((0:Nat):Int)\/c % 4=((1:Nat):Int)\/c % 4=((2:Nat):Int)\/c % 4=((3:Nat):Int):='o';rcases g with e|e|e|e
 .rw[e];show ix_l (k:=0) (xs:=[.ref (Lg M),.ref (Lg M+(0+1)),.ref (Lg M+(0+1+1)),.ref (Lg M+(0+1+1+1+1))]) (by rw[h];rfl) rfl ?_;show f _ 0 (by ext nms;rw[e];rfl)
 .rw[e];show ix_l (k:=1) (xs:=[.ref (Lg M),.ref (Lg M+(0+1)),.ref (Lg M+(0+1+1)),.ref (Lg M+(0+1+1+1+1))]) (by rw[h];rfl) rfl ?_;show f _ 1 (by ext nms;rw[e];rfl)
 .rw[e];show ix_l (k:=2) (xs:=[.ref (Lg M),.ref (Lg M+(0+1)),.ref (Lg M+(0+1+1)),.ref (Lg M+(0+1+1+1+1))]) (by rw[h];rfl) rfl ?_;show f _ 2 (by ext nms;rw[e];rfl)
 .rw[e];show ix_l (k:=3) (xs:=[.ref (Lg M),.ref (Lg M+(0+1)),.ref (Lg M+(0+1+1)),.ref (Lg M+(0+1+1+1+1))]) (by rw[h];rfl) rfl ?_;show f _ 4 (by ext nms;rw[e];rfl)
def Z84{Γ G}:Rd K Γ G Zy Os N2:=by
 rintro a M Q Z ⟨u,c,g,l,rfl,f,e,q⟩;delta Os N2;rfl';rw[qm (show(0:Int)<8 by decide)];ext q Fx;by_cases b:u % 8=0
 .rw[nc b] at q |-;show(('d','d','d'),mulL 'd' 'd','d',('d','d','d'),?_);rw[qm 'd'];show q
 .rw[nb b] at q |-;delta Q3;rfl';rw[qm (show(0:Int)<8 by decide)];by_cases d:u % 8<3
  .rw[nc d] at q |-;show(Y1 'd' 'd',?_);rw[qm 'd',qd 'd'];show q
  .rw[nb d] at q |-;delta Qd;rfl';show(Y1 'd' 'd',?_);rw[qm (show(0:Int)<4 by decide),qd 'd'];show Xe e (Jz 'o' 'd') q
def Yf3{Γ G}(g31:Γ[19]?=some Zy):Rd K Γ G W3 Zg6 Zh4:=by
 rintro b M Q Z ⟨u,c,g,l,rfl,d,a,q⟩;delta Zg6 Zh4;generalize e:Pp=B1;rfl';erw[g31];show(Y1 'd' 'd',_,_,g,l,rfl,d,a,Y1 'd' 'd',Y1 'd' 'd',_,_,g,l,rfl,d,a,Y1 'd' 'd',?_);rw[qm (show(0:Int)<2 by decide),qd (show(0:Int)<97 by decide),qd (show(0:Int)<16 by decide),qd (show(0:Int)<1024 by decide),qd (show(0:Int)<3 by decide)];ext q Tc;by_cases h:u / 97 % 2=0
 .rw[nc h] at q |-;show(Y1 'd' 'd',?_);rw[qm (show(0:Int)<4 by decide),qd (show(0:Int)<389 by decide)];show Xe a (Jz 'o' 'd') (Z1 'd',Y1 'd' 'd',?_);rw[qm (show(0:Int)<6 by decide),qd (show(0:Int)<193 by decide)];show Xe (Zh _ _ []) (Jz (l:=["+","-","/","rest","&","^"]) 'd' 'd') (Z1 'd',q _ (Ks.new _ _))
 .rw[nb h] at q |-;subst e;delta Pp;rfl';show(Z1 'd',Y1 'd' 'd',?_);rw[qm (show(0:Int)<2 by decide),qd (show(0:Int)<193 by decide)];show Xe (Zh _ _ []) (Jz (l:=["<","="]) 'd' 'd') (Z1 'd',q _ (Ks.new _ _))
inductive Hd where
 | form | ch (d:Dl) | home (r:Bool) (k:Nat)
def Hd.d:Hd->D
 | .form=> .tup [.str "form"]
 | .ch d=> .tup [.str "choice",d.a.d,.str d.s,d.b.d]
 | .home r k=> .tup [.str (if r then "round" else "part"),.int k]
structure AF where
 h:Hd
 y:Option FF
 t:FF
def AF.put(f:AF)(s:FF):AF:=(f.h,f.y,TD.app f.t s)
def AF.mk'(f:AF):FF:=match f.h with
 | .form=> .nil
 | .ch d=> .ch d (f.y.getD .nil) f.t .nil
 | .home r k=>if r then .rd k f.t .nil else .pt k f.t .nil
def AF.half(f:AF):Bool:=match f.h,f.y with
 | .ch _,none=>true
 | _,_=>false
def clA:List AF->List AF
 | []=>[]
 | f::r=>if f.half then(f.h,some f.t,.nil)::r else match r with
  | []=>[f]
  | g::r=>g.put f.mk'::r
def putA(s:FF):List AF->List AF
 | []=>[]
 | f::r=>f.put s::r
def ctA(u:Int)(fs:List AF):List AF:=if u % 2=0/\1<Lg fs then clA fs else fs
def Hd.num(w:Bool):Hd->Option Nat
 | .home r k=>if r || w then some k else none
 | _=>none
def Ys(w:Bool)(fs:List AF):LQ:=fs.reverse.filterMap λf=>f.h.num w
def jmpF(w:Bool)(n:Nat):FF:=if w then .lv n .nil else .ag n .nil
def gtA(u:Int)(w:Bool)(fs:List AF):List AF:=if Ys w fs=[] then fs else putA (jmpF w ((Ys w fs).getD (u % ((Ys w fs).length:Int)).toNat 0)) fs
def opA(u:Int)(k:Nat)(fs:List AF):List AF:=
 let a:=if 0<u % 3 then(.home false (97 * k+(u / 3 % 48).toNat),none,.nil)::fs else fs
 if u % 3=1 then a else(.home true (97 * k+(u / 3 % 48).toNat+48),none,.nil)::a
def d0:Dl:=("x",.no 0,"x",.no 0)
def stA(l:LS)(c:Int)(k:Nat)(fs:List AF):List AF:=
 let u:=mix c k
 if u % 20<8 then
  (if (Tc (u / 20) c l).1 then putA (.act (Tc (u / 20) c l).2 .nil) fs else if (Lg fs)<30 then(.ch (Tc (u / 20) c l).2,none,.nil)::fs else fs)
 else if u % 20<11/\(Lg fs)<29 then opA (u / 20) k fs
 else if u % 20<14 then ctA (u / 20) (gtA (u / 40) (decide (u % 20 % 3≠2)) fs)
 else if u % 20=14 then ctA (u / 20) (putA (.fin d0 .nil) fs)
 else if 1<Lg fs then ctA (u / 20) (clA fs) else fs
structure LF where
 h:Hd
 a:Nat
 y:Option (Nat×FF)
 c:Nat
 t:FF
def LF.abs(f:LF):AF:=(f.h,f.y.map (·.2),f.t)
def LF.foot(f:LF):LQ:=f.a::f.c::(match f.y with | none=>[] | some p=>[p.1])
def LF.d(f:LF):D:= .ref f.a
def LF.row(f:LF):LD:=f.h.d::((match f.y with | none=>[] | some p=>[.ref p.1])++[.ref f.c])
structure LFok(C:Nat->Prop)(M:Z3)(f:LF):Prop where
 a:Z2 M f.a=some f.row
 c:∃ds,Z2 M f.c=some ds/\RTs C M (ofF f.t) ds/\nl f.t<=400
 y:∀p,f.y=some p->∃ds,Z2 M p.1=some ds/\RTs C M (ofF p.2) ds
abbrev LI:Z3->Nat->List LF->(Nat->Prop)->Z3->Prop:=GV LF.foot LF.d LFok
section
variable{C C':Nat->Prop}{M M' M0:Z3}{f g:LF}{r fs fs':List LF}{P:Nat}
def LFok.keep(h:LFok C M f)(i:∀x,C x->C' x)(d:∀x,C x->M'[x]?=M[x]?)(b:∀x∈f.foot,M'[x]?=M[x]?):LFok C' M' f:=by
 let(n,l,k,j):=h.c;show(?_,(n,?_,k.keep i d,j),λp e=>?_)
 .rw[Z6 (b f.a Ad)];show h.a
 .rw[Z6 (b f.c (Ae _ Ad))];show l
 .let(m,g1,g2):=h.y p e;show(m,by rw[Z6 (b p.1 (by ext LF.foot;rw[e];simp))];show g1,g2.keep i d)
def LI.up(I:LI M0 P (fs++r) C M)(ks:Ks (λx=>x=P\/x∈fs.flatMap LF.foot) M M')(l:∀x,C x->C' x)(e:∀x,C' x->(C x\/x∈fs.flatMap LF.foot\/(Lg M)<=x)/\x<Lg M')(i:(fs'.flatMap LF.foot).Nodup)(m:∀x∈fs'.flatMap LF.foot,(x∈fs.flatMap LF.foot\/(Lg M)<=x)/\x<Lg M'/\¬C' x)(k:∀f∈fs',LFok C' M' f)(j:Z2 M' P=some ((fs'++r).reverse.map LF.d)):LI M0 P (fs'++r) C' M':=GV.up (foot:=LF.foot) (Ok:=LFok) (λh a b c=>h.keep a b c) I ks l e i m k j
def B8(g:LF)(r:List LF):(g::r).reverse.map LF.d=r.reverse.map LF.d++[.ref g.a]:=by simp[LF.d]
structure Top(C:Nat->Prop)(M:Z3)(P:Nat)(f:LF):Prop where
 nd:f.foot.Nodup
 l:∀x∈f.foot,x<Lg M/\¬C x/\x≠P
def GV.top(I:LI M0 P (f::r) C M):Top C M P f:=by have a:=Ao.mp I.nd;show((As.mp a.2).1,λx b=>?_);have m:x∈(f::r).flatMap LF.foot:=Bs _ b;show((I.l x (Ae _ m)).2,λz=>(I.c x z).2.2 (Ae _ m),λz=>a.1 (z ▸ m))
def GV.put(I:LI M0 P (f::r) C M){s:FF}{d:D}(e:Z2 M f.c=some j)(w:RTs C M (ofF f.t) j)(J:RTs C M (ofF s) [d])(hz:nl f.t+nl s<=400):LI M0 P ({f with t:=TD.app f.t s}::r) C ((M++N).set f.c (.lst (j++[d]))):=by
 have T:=I.top;have u:=T.nd;have v:=I.f f 's';let(F,E):=Ao.mp u;let(B,R):=Ao.mp E;have k:f.c∈f.foot:=Ae _ Ad;have i:∀x,x≠f.c->x<Lg M->((M++N).set f.c (.lst (j++[d])))[x]?=M[x]?:=λx O L=>by rw[Yc (Av O),Y0 L]
 have m:∀x,C x->((M++N).set f.c (.lst (j++[d])))[x]?=M[x]?:=λx b=>i x (λz=>(T.l _ k).2.1 (z ▸ b)) (I.c x b).2.1;have S:((M++N).set f.c (.lst (j++[d]))).length=Lg M+Lg N:=by simp
 have q:∀g:LF,[g].flatMap LF.foot=g.foot:=λg=>by simp
 have H:Ks (λx=>x=P\/x∈[f].flatMap LF.foot) M ((M++N).set f.c (.lst (j++[d]))):=(Ks.new _ _).set (.inl (.inr (by rw[q];show k)));show LI.up (fs:=[f]) (fs':=[{f with t:=TD.app f.t s}]) I H (λ_ h=>h) (λx b=>(.inl b,by have:=(I.c x b).2.1;lia)) (by rw[q];show u) (λx b=>?_) (λg K=>?_) ?_
 .rw[q] at b |-;show(.inl b,by have:=(T.l x b).1;lia,(T.l x b).2.1)
 .cases Aq.mp K;show(?_,(j++[d],Zd (by rw[Ac];have:=(T.l _ k).1;lia),?_,by change nl (TD.app f.t s)<=400;rw[Xx];show hz),λp n=>?_)
  .change Z2 _ f.a=_;rw[Z6 (i f.a (λz=>F (by rw[z];show Ad)) (T.l _ Ad).1)];show v.a
  .change RTs C _ (ofF (TD.app f.t s)) _;have:∀s t:FF,ofF (TD.app s t)=ofF s++ofF t:=λs t=>by induction s<;>simp_all [TD.app,ofF]
   rw[this];show(w.keep (λ_ h=>h) m).app (J.keep (λ_ h=>h) m)
  .let(Q,g1,g2):=v.y p n;have A:p.1∈f.foot:=by ext LF.foot;rw[show f.y=some p from n];simp
   show(Q,?_,g2.keep (λ_ h=>h) m);rw[Z6 (i p.1 (λz=>B (by rw[<-z,show f.y=some p from n];simp)) (T.l _ A).1)];show g1
 .have G:=(I.l P Ad).2;rw[Z6 (i P (Av (T.l _ k).2.2) G),I.o];simp[LF.d]
end
def Zh0(s t:FF):ofF (TD.app s t)=ofF s++ofF t:=by induction s<;>simp_all [TD.app,ofF]
def AF.w(f:AF):Nat:=nl f.t+nl (f.y.getD .nil)+3
def wA(fs:List AF):Nat:=(fs.map AF.w).sum
def Xi(f:AF)(r:List AF):wA (f::r)=f.w+wA r:=by simp[wA]
def Y40(fs:List AF):3 * (Lg fs)<=wA fs:=by
 induction fs with
 | nil=>show nj _
 | cons f r a=>rw[Xi,Af];ext AF.w;lia
def mk_w(f:AF):nl f.mk'<=f.w:=by
 let(h,y,t):=f;cases h with
 | form=>show nj _
 | ch d=>change nl (.ch d (y.getD .nil) t .nil)<=_;rw[R6,Zj];ext AF.w;dsimp only;split<;>lia
 | home r k=>
  unfold AF.mk' AF.w;dsimp only;cases r
  .change nl (.pt k t .nil)<=_;rw[E6,Zj];lia
  .change nl (.rd k t .nil)<=_;rw[F8,Zj];lia
def Yq7(f:AF)(s:FF):(f.put s).w=f.w+nl s:=by unfold AF.w AF.put;dsimp only;rw[Xx];lia
def Sd:List AF->Prop
 | []=>False
 | [f]=>f.h= .form/\f.y=none
 | f::r=>f.h≠ .form/\((∃b k,f.h= .home b k)->f.y=none)/\Sd r
def Sd.tl{f g:AF}(h:Sd (f::g::r)):f.h≠ .form/\((∃b k,f.h= .home b k)->f.y=none)/\Sd (g::r):=h
def Sd.put{f:AF}(h:Sd (f::r))(t:FF):Sd ((f.h,f.y,t)::r):=by cases r<;>show h
section
variable{C:Nat->Prop}{M M0:Z3}{f g:LF}{r:List LF}{P:Nat}
def GV.fold(I:LI M0 P (f::g::r) C M){k:LD}{d:D}(e:Z2 M g.c=some k)(X:RTs (λx=>C x\/x∈f.foot) M (ofF s) [d])(hz:nl g.t+nl s<=400):LI M0 P ({g with t:=TD.app g.t s}::r) (λx=>C x\/x∈f.foot) ((M.set P (.lst ((g::r).reverse.map LF.d))).set g.c (.lst (k++[d]))):=by
 have i:=Ao.mp I.nd;have B:∀f g:LF,[f,g].flatMap LF.foot=f.foot++g.foot:=λf g=>by simp
 have m:∀g:LF,[g].flatMap LF.foot=g.foot:=λg=>by simp
 have E:(f::g::r).flatMap LF.foot=f.foot++(g.foot++r.flatMap LF.foot):=rfl;rw[E] at i;let(m1,U,T):=As.mp i.2;let(F,m5,m6):=As.mp U;have q:∀x∈P::(f.foot++(g.foot++r.flatMap LF.foot)),Lg M0<=x/\x<Lg M:=I.l;have u:∀x,C x->(Lg M0)<=x/\x<Lg M/\x∉P::(f.foot++(g.foot++r.flatMap LF.foot)):=I.c;have A:=I.f g 's';have V:=(q P Ad).2;have n:g.c∈g.foot:=Ae _ Ad;have H:∀x∈g.foot,x<Lg M:=λx b=>(q x (by simp[b])).2;have w:∀x∈g.foot,x≠P:=λx b z=>i.1 (by rw[<-z];simp[b]);have fP:∀x∈f.foot,x≠P:=λx b z=>i.1 (by rw[<-z];simp[b]);have K:∀x∈f.foot,x∉g.foot:=λx b z=>T x b x (by simp[z]) rfl;have J:∀x∈g.foot,¬C x:=λx b z=>(u x z).2.2 (by simp[b]);have j:∀x,x≠P->x≠g.c->((M.set P (.lst ((g::r).reverse.map LF.d))).set g.c (.lst (k++[d])))[x]?=M[x]?:=λx h1 Z=>by rw[Yc (Av Z),Yc (Av h1)]
 have o:∀x,C x\/x∈f.foot->((M.set P (.lst ((g::r).reverse.map LF.d))).set g.c (.lst (k++[d])))[x]?=M[x]?:=λx b=>by
  rcases b with b|b
  .show j x (λz=>(u x b).2.2 (by simp[z])) λz=>J _ n (z ▸ b)
  .show j x (fP x b) λz=>K x b (z ▸ n)
 have W:Ks (λx=>x=P\/x∈[f,g].flatMap LF.foot) M ((M.set P (.lst ((g::r).reverse.map LF.d))).set g.c (.lst (k++[d]))):=((Ks.refl M).set (.inl (.inl rfl))).set (.inl (.inr (by rw[B];show Bk _ n)));have G:((M.set P (.lst ((g::r).reverse.map LF.d))).set g.c (.lst (k++[d]))).length=Lg M:=by simp
 let(S,R):=Ao.mp F;let(Q,n4):=Ao.mp R;let(z0,L,N,h3):=A.c;rw[e] at L;cases L;show LI.up (fs:=[f,g]) (fs':=[{g with t:=TD.app g.t s}]) I W (λ_ h=> .inl h) (λx b=>(?_,?_)) (by rw[m];show F) (λx b=>?_) (λg' Y=>?_) ?_
 .rcases b with b|b
  .show .inl b
  .show .inr (.inl (by rw[B];simp[b]))
 .rw[G];rcases b with b|b
  .exact(u x b).2.1
  .exact(q x (by simp[b])).2
 .rw[m] at b;rw[B,G];replace b:x∈g.foot:=b;show(.inl (by simp[b]),H x b,λz=>?_);rcases z with z|z
  .show J x b z
  .show K x z b
 .cases Aq.mp Y;show(?_,(k++[d],Zd (by rw[Dm];show H _ n),?_,by change nl (TD.app g.t s)<=400;rw[Xx];show hz),λp v=>?_)
  .change Z2 _ g.a=_;rw[Z6 (j g.a (w _ Ad) λz=>S (by rw[z];show Ad))];show A.a
  .change RTs _ _ (ofF (TD.app g.t s)) _;rw[Zh0];show(N.keep (λ_ h=> .inl h) λx b=>o x (.inl b)).app (X.keep (λ_ h=>h) o)
  .let(es,g1,g2):=A.y p v;have O:p.1∈g.foot:=by ext LF.foot;rw[show g.y=some p from v];simp
   show(es,?_,g2.keep (λ_ h=> .inl h) λx b=>o x (.inl b));rw[Z6 (j p.1 (w _ O) λz=>Q (by rw[<-z,show g.y=some p from v];simp))];show g1
 .rw[Z8 (w _ n),Zd V];simp[LF.d]
def GV.turn(I:LI M0 P (f::r) C M){n a:Nat}(G:Lg M<=n/\n<Lg e)(H:Lg M<=a/\a<Lg e)(F:n≠a)(i:∀x,x≠P->x<Lg M->e[x]?=M[x]?)(s:Z2 e n=some [])(q:Z2 e a=some [f.h.d,.ref f.c,.ref n])(o:Z2 e P=some (r.reverse.map LF.d++[.ref a])):LI M0 P ((f.h,a,some #v[f.c,f.t],n,.nil)::r) C e:=by
 have T:=I.top;have D:=I.f f 's';have k:∀g:LF,[g].flatMap LF.foot=g.foot:=λg=>by simp
 have m:f.c∈f.foot:=Ae _ Ad;have u:Ks (λx=>x=P\/x∈[f].flatMap LF.foot) M e:=(λx n l=>i x (λz=>n (.inl z)) l,'o');have v:∀x,C x->e[x]?=M[x]?:=λx b=>i x (λz=>(I.c x b).2.2 (by simp[z])) (I.c x b).2.1;have j:=T.l _ m;show LI.up (fs:=[f]) (fs':=[(f.h,a,some #v[f.c,f.t],n,.nil)]) I u (λ_ h=>h) (λx b=>(.inl b,by have:=(I.c x b).2.1;lia)) ?_ (λx b=>?_) (λg y=>?_) ?_
 .rw[k];simp[LF.foot];lia
 .rw[k] at b |-;simp[LF.foot] at b;rcases b with rfl|rfl|rfl
  .exact(.inr 'o','o',λz=>by have:=(I.c _ z).2.1;lia)
  .exact(.inr 'o','o',λz=>by have:=(I.c _ z).2.1;lia)
  .exact(.inl m,'o',j.2.1)
 .cases Aq.mp y;let(E,B,A,J):=D.c;show(q,([],s,rfl,by change nl .nil<=400;rw[Zj];lia),λp w=>?_);cases w;show(E,by rw[Z6 (i f.c j.2.2 j.1)];show B,A.keep (λ_ h=>h) v)
 .rw[o];simp[LF.d]
def GV.add(I:LI M0 P r C M)(v:Lg M<=n/\n<Lg b)(w:Lg M<=a/\a<Lg b)(u:n≠a)(i:∀x,x≠P->x<Lg M->b[x]?=M[x]?)(o:Z2 b n=some [])(m:Z2 b a=some [h.d,.ref n])(k:Z2 b P=some (r.reverse.map LF.d++[.ref a])):LI M0 P ((h,a,none,n,.nil)::r) C b:=by
 have j:∀g:LF,[g].flatMap LF.foot=g.foot:=λg=>by simp
 have q:Ks (λx=>x=P\/x∈([]:List LF).flatMap LF.foot) M b:=(λx n l=>i x (λz=>n (.inl z)) l,'o');show LI.up (fs:=[]) (fs':=[(h,a,none,n,.nil)]) I q (λ_ h=>h) (λx e=>(.inl e,by have:=(I.c x e).2.1;lia)) ?_ (λx e=>?_) (λg t=>?_) ?_
 .rw[j];simp[LF.foot];lia
 .rw[j] at e;simp[LF.foot] at e;rcases e with rfl|rfl
  .exact(.inr 'o','o',λz=>by have:=(I.c _ z).2.1;lia)
  .exact(.inr 'o','o',λz=>by have:=(I.c _ z).2.1;lia)
 .cases Aq.mp t;show(m,([],o,rfl,by change nl .nil<=400;rw[Zj];lia),λp s=>by cases s)
 .rw[k];simp[LF.d]
end
def Zt:DSp:=λe M Q _=>∃(c:Z3) (P:Nat) (b:List LF) (C:Nat->Prop),e=[.ref P]/\LI c P b C M/\Sd (b.map LF.abs)/\1<Lg b/\wA (b.map LF.abs)<=390/\∀a f d,LI c P a f d->a.map LF.abs=clA (b.map LF.abs)->Q .non d
def Zo3{Γ G}:Rd K Γ G Zt Gm Gn:=by
 rintro ds M Q Z ⟨M0,P,fs,C,rfl,I,sd,hl,hw,q⟩
 match fs,hl with
 | f::g::r,_=>
 have R:=I.o;rw[B8] at R;delta Gm Gn;rfl';show(Ze (Z0 R),_,.ref f.a,R,by simp,?_);rw[Kr];let(s1,s2,s3):=sd.tl;have T:=I.top;have V:=I.f f 's';have go:=I.f g 's';let(m,g1,g2,g3):=go.c;let(B,X,W,f3):=V.c;have lP:=(I.l P Ad).2;have nP:=(Ao.mp I.nd).1;have gm:∀x∈g.foot,x≠P/\x<Lg M:=λx hx=>(λz=>nP (by rw[<-z];show Bk _ (Bs _ hx)),(I.l x (Ae _ (Bk _ (Bs _ hx)))).2);have w2:nl g.t+nl f.abs.mk'<=400:=by
  have S:=mk_w f.abs;rw[Aj,Aj,Xi,Xi] at hw;have:nl g.t<=g.abs.w:=by unfold AF.w LF.abs;dsimp only;lia
  lia
 have gd:Lg m<1000:=by have:=g2.len;have:=Vh (ofF g.t);unfold nl lns at g3;lia
 have u:∀x,x≠P->(M.set P (.lst ((g::r).reverse.map LF.d)))[x]?=M[x]?:=λx h=>Yc (Av h);have L:Z2 (M.set P (.lst ((g::r).reverse.map LF.d))) P=some ((g::r).reverse.map LF.d):=Zd lP;have e:Z2 (M.set P (.lst ((g::r).reverse.map LF.d))) f.a=some f.row:=by rw[Z6 (u _ (T.l _ Ad).2.2)];show V.a
 have rg:Z2 (M.set P (.lst ((g::r).reverse.map LF.d))) g.a=some g.row:=by rw[Z6 (u _ (gm _ Ad).1)];show go.a
 have N:Z2 (M.set P (.lst ((g::r).reverse.map LF.d))) g.c=some m:=by rw[Z6 (u _ (gm _ (Ae _ Ad)).1)];show g1
 have l0:(M.set P (.lst ((g::r).reverse.map LF.d))).length=Lg M:=by simp
 have i:∀d:D,RTs (λx=>C x\/x∈f.foot) M (ofF f.abs.mk') [d]->f.abs.half=false->Q .non ((M.set P (.lst ((g::r).reverse.map LF.d))).set g.c (.lst (m++[d]))):=λd h hh=>by show q _ _ _ (I.fold g1 h w2) ?_;change _=clA (f.abs::g.abs::r.map LF.abs);change _=if f.abs.half then _ else _;rw[hh];rfl
 have E:∀(F:DK) (d:D),F .non ((M.set P (.lst ((g::r).reverse.map LF.d))).set g.c (.lst (m++[d])))->mtD .append (.ref g.c) [d] (M.set P (.lst ((g::r).reverse.map LF.d))) F:=λF d h=>(m,N,Za 'o',h);have U:∀F:D->Prop,F (.ref g.c)->ixD (M.set P (.lst ((g::r).reverse.map LF.d))) (.ref P) (.int (-1)) λd=>ixD (M.set P (.lst ((g::r).reverse.map LF.d))) d (.int (-1)) F:=λF h=>Xe (Z0 (L.trans (congrArg some (B8 g r)))) (Wn _ _) (Xe (Z0 rg) (by ext LF.row;rw[<-Dh];show Wn _ _) h);have mk:mtK .append (.ref g.c) (M.set P (.lst ((g::r).reverse.map LF.d))):=Ze (Z0 N);generalize z0:M.set P (.lst ((g::r).reverse.map LF.d))=M1 at u L e rg N l0 i E U mk |-;cases j:f.h with
 | form=>show absurd j s1
 | ch d=>
  cases v:f.y with
  | none=>
   have H:f.row=[(Hd.ch d).d,.ref f.c]:=by ext LF.row;rw[j,v];rfl
   rw[H] at e;show ix_l (k:=0) (Z0 e) rfl ?_;erw[Hd.d];rfl';show Zv (Z0 e) ?_;rfl';show(Ze (Z0 L),nj _,Z1 'd',?_);rfl';have e1:(M1++[Cell.lst []]:Z3).length=Lg M1+1:=by simp
   rw[e1];show(_,_,Z4 (Z4 e),by rw[<-e1];show Z5 _ _ [],Z1 (by change 2+1<=_;lia),_,Z4 (Z4 (Z4 L)),Za ?_,?_)
   .have:=Y40 (f.abs::g.abs::r.map LF.abs);erw[Af,Al] at this;erw[Aj] at hw;simp;lia
   have e2:(M1++[Cell.lst []]++[Cell.lst [D.ref (Lg M1)]]:Z3).length=Lg M1+2:=by simp
   rw[e2];show q (_::g::r) C _ (GV.turn (n:=Lg M1) (a:=Lg M1+2) I ?_ ?_ 'o' (λx S h2=>?_) ?_ ?_ ?_) ?_
   .simp;lia
   .simp;lia
   .rw[Yc (Av S),Y0 (by simp;lia),Y0 (by simp;lia),Y0 'o'];show u x S
   .rw[Z8 'o'];erw[An];show Z5 _ _ _
   .rw[Z8 'o'];erw[An];rw[Zl,j];rfl
   .show Zd (by simp;lia)
   .change _=if f.abs.half then _ else _;rw[show f.abs.half=true by unfold AF.half LF.abs;dsimp only;rw[j,v];rfl];rfl
  | some p=>
   let(dy,y1,y2):=V.y p v;have H:f.row=[(Hd.ch d).d,.ref p.1,.ref f.c]:=by ext LF.row;rw[j,v];rfl
   have Y:f.abs.mk'= .ch d p.2 f.t .nil:=by unfold AF.mk' LF.abs;dsimp only;rw[j,v];rfl
   have eb:f.abs.half=false:=by unfold AF.half LF.abs;dsimp only;rw[j,v];rfl
   have J:∀x,x=p.1\/x=f.c->x∈f.foot:=by ext LF.foot;rw[v];simp
   rw[Y] at i;rw[H] at e;have A:RTs (λx=>C x\/x∈f.foot) M (ofF (.ch d p.2 f.t .nil)) [.tup [.str "choice",d.a.d,.str d.s,d.b.d,.ref p.1,.ref f.c]]:=(_,_,rfl,(p.1,f.c,dy,B,rfl,.inr (J _ (.inl rfl)),.inr (J _ (.inr rfl)),y1,y2.up λ_ h=> .inl h,X,W.up λ_ h=> .inl h),rfl);show ix_l (k:=0) (Z0 e) rfl ?_;erw[Hd.d];rfl';show Zv (Z0 e) ?_;rfl';show ix_l (k:=0) (Z0 e) rfl ?_;erw[Hd.d];rfl';show U _ (mk,ix_l (k:=0) (Z0 e) rfl (ix_l (k:=1) (Z0 e) rfl (ix_l (k:=2) (Z0 e) rfl (Z1 'd',?_))));erw[Hd.d];rfl';show(by simp,Z1 's',E _ _ (i _ A eb))
 | home b k=>
  have v:f.y=none:=Option.map_eq_none_iff.mp (s2 (b,k,j));have H:f.row=[(Hd.home b k).d,.ref f.c]:=by ext LF.row;rw[j,v];rfl
  have Y:f.abs.mk'=if b then .rd k f.t .nil else .pt k f.t .nil:=by unfold AF.mk' LF.abs;dsimp only;rw[j]
  have eb:f.abs.half=false:=by unfold AF.half LF.abs;dsimp only;rw[j]
  have J:f.c∈f.foot:=Ae _ Ad;rw[Y] at i;rw[H] at e;have A:RTs (λx=>C x\/x∈f.foot) M (ofF (if b then .rd k f.t .nil else .pt k f.t .nil)) [.tup [.str (if b then "round" else "part"),.int k,.ref f.c]]:=by
   cases b
   .exact(_,_,rfl,(f.c,B,rfl,.inr J,X,W.up λ_ h=> .inl h),rfl)
   .exact(_,_,rfl,(f.c,B,rfl,.inr J,X,W.up λ_ h=> .inl h),rfl)
  have O:¬(if b then("round":Str) else "part")="choice":=by cases b<;>decide+kernel
  show ix_l (k:=0) (Z0 e) rfl ?_;erw[Hd.d];rfl';rw[nb O,nb O];show ix_l (k:=0) (Z0 e) rfl ?_;erw[Hd.d];rfl';rw[nb O];show U _ (mk,ix_l (k:=0) (Z0 e) rfl (ix_l (k:=1) (Z0 e) rfl (Z1 'd',?_)));erw[Hd.d];rfl';show(by simp,Z1 's',E _ _ (i _ A eb))
def Sd.ne{fs:List AF}(h:Sd fs):∃f r,fs=f::r:=by cases fs with | nil=>show h.elim | cons f r=>show(f,r,rfl)
def Sd.cl{fs:List AF}(h:Sd fs)(e:1<Lg fs):Sd (clA fs)/\wA (clA fs)<=wA fs:=by
 match fs,e with
 | f::g::r,_=>
 let(i,l,c):=h.tl;change Sd (if f.half then _ else _)/\wA (if f.half then _ else _)<=_;cases b:f.half with
 | true=>
  rw[nc rfl];let(k,j,a):=f;cases k with
  | ch d=>
   cases j with
   | none=>show((i,(λzz=>by let(_,_,z):=zz;cases z),c),by
    change wA ((.ch d,some a,.nil)::g::r)<=_;rw[Xi,Xi (f:=(.ch d,none,a))];have:((.ch d,some a,.nil):AF).w=((.ch d,none,a):AF).w:=by ext AF.w;change nl .nil+nl a+3=nl a+nl .nil+3;lia
    lia)
   | some y=>cases b
  | _=>cases b
 | false=>rw[nb Bf9];show(c.put _,?_);change wA (g.put f.mk'::r)<=_;rw[Xi,Xi,Xi,Yq7];have:=mk_w f;lia
def Sd.pt{fs:List AF}(h:Sd fs)(s:FF):Sd (putA s fs)/\wA (putA s fs)=wA fs+nl s:=by let(f,r,rfl):=h.ne;show(h.put _,by change wA (f.put s::r)=_;rw[Xi,Xi,Yq7];lia)
def Sd.ct{fs:List AF}(h:Sd fs)(u:Int):Sd (ctA u fs)/\wA (ctA u fs)<=wA fs:=by
 ext ctA;split
 .rename_i z;show h.cl z.2
 .exact(h,na _)
def Y37(w:Bool)(n:Nat):nl (jmpF w n)=1:=by cases w<;>rfl
def Sd.gt{fs:List AF}(h:Sd fs)(u:Int)(w:Bool):Sd (gtA u w fs)/\wA (gtA u w fs)<=wA fs+1:=by
 ext gtA;split
 .exact(h,'o')
 .have:=h.pt (jmpF w ((Ys w fs).getD (u % ((Ys w fs).length:Int)).toNat 0));rw[Y37] at this;show(this.1,'o')
def Sd.add{fs:List AF}(h:Sd fs)(a:hd≠ .form):Sd ((hd,none,.nil)::fs)/\wA ((hd,none,.nil)::fs)=wA fs+3:=by let(f,r,rfl):=h.ne;show((a,λ_=>rfl,h),by rw[Xi];change 0+0+3+_=_;lia)
def Sd.op{fs:List AF}(h:Sd fs)(u:Int)(k:Nat):Sd (opA u k fs)/\wA (opA u k fs)<=wA fs+6:=by
 ext opA;have a:Sd (if 0<u % 3 then(.home false (97 * k+(u / 3 % 48).toNat),none,.nil)::fs else fs)/\wA (if 0<u % 3 then(.home false (97 * k+(u / 3 % 48).toNat),none,.nil)::fs else fs)<=wA fs+3:=by
  split
  .have:=h.add (hd:= .home false (97 * k+(u / 3 % 48).toNat)) (by intro z;cases z);show(this.1,'o')
  .exact(h,'o')
 dsimp only;split
 .exact(a.1,'o')
 .have:=a.1.add (hd:= .home true (97 * k+(u / 3 % 48).toNat+48)) (by intro z;cases z);show(this.1,'o')
def Sd.st{fs:List AF}(h:Sd fs)(l:LS)(c:Int)(k:Nat):Sd (stA l c k fs)/\wA (stA l c k fs)<=wA fs+6:=by
 ext stA;dsimp only;split
 .split
  .have:=h.pt (.act (Tc (mix c k / 20) c l).2 .nil);rw[Vj,Zj] at this;show(this.1,'o')
  split
  .have:=h.add (hd:= .ch (Tc (mix c k / 20) c l).2) (by intro z;cases z);show(this.1,'o')
  .exact(h,'o')
 split
 .show h.op _ _
 split
 .have a:=h.gt (mix c k / 40) (decide (mix c k % 20 % 3≠2));have b:=a.1.ct (mix c k / 20);show(b.1,'o')
 split
 .have a:=h.pt (.fin d0 .nil);rw[Sj,Zj] at a;have b:=a.1.ct (mix c k / 20);show(b.1,'o')
 split
 .rename_i z;have a:=h.cl z;have b:=a.1.ct (mix c k / 20);show(b.1,'o')
 .exact(h,'o')
def msA(fs:List AF):Nat:=(fs.map λf=>if f.half then 2 else 1).sum
def Ws(f:AF)(r:List AF):msA (f::r)=(if f.half then 2 else 1)+msA r:=by simp[msA]
def Y90{fs:List AF}(h:Sd fs)(b:1<Lg fs):msA (clA fs)<msA fs:=by
 match fs,b with
 | f::g::r,_=>
 change msA (if f.half then _ else _)<_;cases a:f.half with
 | true=>
  rw[nc rfl,Ws,Ws (f:=f),a];have:((f.h,some f.t,.nil):AF).half=false:=by ext AF.half;cases f.h<;>rfl
  rw[this];simp
 | false=>rw[nb Bf9];change msA (g.put f.mk'::r)<_;rw[Ws,Ws,Ws,a,show(g.put f.mk').half=g.half from rfl];simp
def endA:Nat->List AF->List AF
 | 0,a=>a
 | n+1,a=>if 1<Lg a then endA n (clA a) else a
def S4{n:Nat}{fs:List AF}(h:¬1<Lg fs):endA n fs=fs:=by
 cases n with
 | zero=>rfl
 | succ n=>show(if _ then _ else _)=_;rw[nb h]
def Ye6{n m:Nat}:∀{fs:List AF},Sd fs->msA fs<=n->msA fs<=m->endA n fs=endA m fs:=by
 induction n generalizing m with
 | zero=>intro fs h b d;let(f,r,rfl):=h.ne;rw[Ws] at b;split at b<;>lia
 | succ n c=>
  intro fs h b d;by_cases a:1<Lg fs
  .have e:=Y90 h a;cases m with
   | zero=>lia
   | succ m=>show(if _ then _ else _)=if _ then _ else _;rw[nc a,nc a];show c (h.cl a).1 'o' 'o'
  .rw[S4 a,S4 a]
def f0:List AF:=[(.form,none,.nil)]
def runA(l:LS)(a:List Int):List AF:=(Dn (Lg a)).foldl (λb k=>stA l (a.getD k 0) k b) f0
def Cr(l:LS)(a:List Int):FF:=match endA (msA (runA l a)) (runA l a) with
 | [f]=>f.t
 | _=> .nil
def Zb2(l:LS)(a:List Int)(n:Nat):Sd ((Dn n).foldl (λfs k=>stA l (a.getD k 0) k fs) f0)/\wA ((Dn n).foldl (λfs k=>stA l (a.getD k 0) k fs) f0)<=3+6 * n:=by
 induction n with
 | zero=>show((rfl,rfl),by change wA f0<=3+6 * 0;decide)
 | succ n b=>rw[List.range_succ,Hu];have:=b.1.st l (a.getD n 0) n;show(this.1,by change wA (stA l (a.getD n 0) n _)<=_;lia)
def Zi0{n:Nat}:∀{fs:List AF},Sd fs->msA fs<=n->∃t,endA n fs=[(.form,none,t)]:=by
 induction n with
 | zero=>intro fs h b;let(f,r,rfl):=h.ne;rw[Ws] at b;split at b<;>lia
 | succ n c=>
  intro fs h b;by_cases a:1<Lg fs
  .have j:=Y90 h a;rw[show endA (n+1) fs=endA n (clA fs) from nc a];show c (h.cl a).1 'o'
  .rw[S4 a];let(f,r,rfl):=h.ne;cases r with
   | cons g r=>show absurd 's' a
   | nil=>let(i,d,e):=f;let(rfl,rfl):=(show i= .form/\d=none from h);show(e,rfl)
def wdS(w:Bool):Str:=if w then "leave" else "again"
def Yt:DSp:=λe M Q _=>∃(c:Z3) (P:Nat) (b:List LF) (C:Nat->Prop) (u:Int) (w:Bool),e=[.ref P,.int u,.str (wdS w)]/\LI c P b C M/\Sd (b.map LF.abs)/\wA (b.map LF.abs)<=380/\∀a f d,LI c P a f d->a.map LF.abs=gtA u w (b.map LF.abs)->Q .non d
def Zx:DSp:=λe M Q _=>∃(c:Z3) (P:Nat) (b:List LF) (C:Nat->Prop) (u:Int) (k:Nat),e=[.ref P,.int u,.int k]/\k<=1000/\LI c P b C M/\wA (b.map LF.abs)<=380/\∀a f d,LI c P a f d->a.map LF.abs=opA u k (b.map LF.abs)->Q .non d
def Xk:DSp:=λe M Q _=>∃(c:Z3) (P:Nat) (b:List LF) (C:Nat->Prop) (u:Int),e=[.ref P,.int u]/\LI c P b C M/\Sd (b.map LF.abs)/\wA (b.map LF.abs)<=390/\∀a f d,LI c P a f d->a.map LF.abs=ctA u (b.map LF.abs)->Q .non d
def X4:DSp:=λf M Q _=>∃(d:Z3) (P:Nat) (b:List LF) (C:Nat->Prop) (c:Int) (k g:Nat) (l:LS),f=[.ref P,.int c,.int k,.ref g]/\k<=1000/\LI d P b C M/\Sd (b.map LF.abs)/\wA (b.map LF.abs)<=370/\(Lg l)=4/\Zg d g=some (l.map D.str)/\∀a h e,LI d P a h e->a.map LF.abs=stA l c k (b.map LF.abs)->Q .non e
def X3:DSp:=λf M Q _=>∃(a g:Nat) (d:List Int) (l:LS),f=[.ref a,.ref g]/\Zg M a=some (d.map .int)/\(Lg d)<=60/\(Lg l)=4/\Zg M g=some (l.map D.str)/\∀C b r e,Kp M b->Z2 b r=some e->RTs C b (ofF (Cr l d)) e->(∀c,C c->c<Lg b)->Q (.ref r) b
def Y03(xs:LD):U.cutD xs (some 1) none=xs.drop 1:=by
 have b:HT.sIx (Lg xs) (Lg xs) none=Lg xs:=rfl;have a:HT.sIx (Lg xs) 0 (some 1)=min 1 (Lg xs):=HT.Pz (Lg xs) 0 1;ext U.cutD;rw[b,a];cases xs with
 | nil=>rfl
 | cons x r=>rw[Nat.min_eq_left 's'];show Ii (by rw[List.length_drop];show na _)
def Sv(fs:List LF):(fs.map LF.abs).length=Lg fs:=Al ..
section
variable{C:Nat->Prop}{M M0:Z3}{fs:List LF}{P:Nat}
def LI.small(a:wA (fs.map LF.abs)<=390):Lg fs<200:=by have:=Y40 (fs.map LF.abs);rw[Sv] at this;lia
def GV.app(I:LI M0 P fs C M)(N:Z3):LI M0 P fs C (M++N):=by show LI.up (fs:=[]) (fs':=[]) I (Ks.new _ _) (λ_ h=>h) (λx a=>(.inl a,by rw[Ac];have:=(I.c x a).2.1;lia)) Io (λx a=>by cases a) (λf b=>by cases b) (Z4 I.o)
def GV.kp(I:LI M0 P fs C M)(k:Kp M M'):LI M0 P fs C M':=by show LI.up (fs:=[]) (fs':=[]) I k.all (λ_ h=>h) (λx a=>(.inl a,by have:=(I.c x a).2.1;have:=k.len;lia)) Io (λx a=>by cases a) (λf b=>by cases b) (k.pW I.o)
def GV.push(h:Hd)(I:LI M0 P fs C M):LI M0 P ((h,(M++[Cell.lst []]:Z3).length,none,Lg M,.nil)::fs) C (Ha (M++[Cell.lst []]++[Cell.lst [h.d,.ref (Lg M)]]) P (.lst (fs.reverse.map LF.d++[.ref (M++[Cell.lst []]:Z3).length]))):=by
 have c:=(I.l P Ad).2;show I.add 's' 's' 's' (λx b a=>by rw[Yc (Av b),Y0 (by simp;lia),Y0 a]) ?_ ?_ (Zd (by simp;lia))
 .rw[Z8 'o',An];show Z5 _ _ _
 .rw[Z8 (by simp;lia)];show Z5 _ _ []
def GV.last(I:LI M0 P fs C M)(k:Sd (fs.map LF.abs))(m:wA (fs.map LF.abs)<=390):∃c b,(∀F:D->Prop,F (.ref c)->ixD M (.ref P) (.int (-1)) λd=>ixD M d (.int (-1)) F)/\Z2 M c=some b/\(Lg b)<1000/\∀(N:Z3) (s:FF) (d:D),nl s<=1->RTs C M (ofF s) [d]->∃fs',LI M0 P fs' C ((M++N).set c (.lst (b++[d])))/\fs'.map LF.abs=putA s (fs.map LF.abs):=by
 cases fs with
 | nil=>show k.elim
 | cons f r=>
  have j:=I.f f 's';let(b,i,g,q):=j.c;have e:=I.o;rw[B8] at e;have p:Lg b<=nl f.t:=by have:=g.len;have:=Vh (ofF f.t);unfold nl lns;lia
  show(f.c,b,λF h=>Xe (Z0 e) (Wn _ _) (Xe (Z0 j.a) (by ext LF.row;rw[<-Dh];show Wn _ _) h),i,'o',λN s d n l=>(_,I.put i g l ?_,rfl));rw[Aj,Xi] at m;have:nl f.t<=f.abs.w:=by unfold AF.w LF.abs;dsimp only;lia
  lia
end
def Jb{Γ G}(g33:Γ[21]?=some Zt):Rd K Γ G Xk Sa Sf:=by
 rintro d M Q Z ⟨j,P,a,C,u,rfl,I,g,i,q⟩;delta Sa Sf;rfl';rw[qm 'd'];have f:¬(u % 2=0/\1<Lg a)->Q .non M:=λh=>q a C M I (by ext ctA;rw[Sv,nb h]);by_cases h:u % 2=0
 .rw[nc h];show Zv (Z0 I.o) ?_;rfl';rw[Al,Dp];by_cases b:1<Lg a
  .rw[nc 'o'];erw[g33];show(j,P,a,C,rfl,I,g,b,i,λc m k l e=>q c m k l (by ext ctA;rw[Sv,nc (h,b)];show e))
  .rw[nb 'o'];show f λz=>b z.2
 .rw[nb h,nb h];show f λz=>h z.1
def Ze7{Γ G}:Rd K Γ G Zx Gz F4:=by
 rintro i M Q Z ⟨n,P,d,C,u,k,rfl,t,I,s,q⟩;delta Gz F4;generalize l:Tw=B1;rfl';rw[qm (show(0:Int)<3 by decide),qd 'd',qm (show(0:Int)<48 by decide)];have v:=Kj (u / 3) (show(48:Int)≠0 by decide);have m:(97 * (k:Int)+u / 3 % 48)=((97 * k+(u / 3 % 48).toNat:Nat):Int):='o';have p:=LI.small (fs:=d) 'o';rw[m];have b:∀(a:List LF) (e:Z3),LI n P a C e->(Lg a)<300->a.map LF.abs=(if 0<u % 3 then(.home false (97 * k+(u / 3 % 48).toNat),none,.nil)::d.map LF.abs else d.map LF.abs)->tss (K,Γ,G) noX B1 {nx:=λ_ M=>Q .non M,rt:=Q} [↑P,some (.int u),some (.int k),some (.int (u % 3)),some (.int ((97 * k+(u / 3 % 48).toNat:Nat):Int))] e:=λa e f r j=>by
  subst l;delta Tw;rfl';by_cases c:u % 3=1
  .try rw[nb (by rw[c];simp)]
   try erw[c]
   rfl';show q a C e f (by rw[j];ext opA;dsimp only;rw[nc c])
  .try rw[nc c]
   try erw[c]
   rfl';show(Ze (Z0 f.o),Z1 'd',nj _,Z1 'd',_,Z4 (Z4 f.o),Za (by rw[Al,Dp];lia),?_);have g:(((97 * k+(u / 3 % 48).toNat:Nat):Int)+48)=((97 * k+(u / 3 % 48).toNat+48:Nat):Int):='o';rw[g];show q _ C _ (GV.push (.home true (97 * k+(u / 3 % 48).toNat+48)) f) ?_;ext opA;dsimp only;rw[nb c,<-j];rfl
 show(mulL 'd' 'd',Y1 'd' 'd',?_);by_cases h:0<u % 3
 .rw[nc h];show(Ze (Z0 I.o),Z1 'd',nj _,Z1 'd',_,Z4 (Z4 I.o),Za (by rw[Al,Dp];lia),?_);show b _ _ (GV.push (.home false (97 * k+(u / 3 % 48).toNat)) I) (by rw[Af];lia) ?_;rw[nc h];rfl
 .rw[nb h];show b d M I 'o' (by rw[nb h])
def Yd9:∀fs:List LF,Sd (fs.map LF.abs)->∃x,fs.reverse=x::fs.reverse.drop 1/\x.h= .form:=by
 intro fs;induction fs with
 | nil=>intro h;show h.elim
 | cons f r a=>
  intro h;cases r with
  | nil=>show(f,rfl,h.1)
  | cons g r=>let(x,e,b):=a h.tl.2.2;show(x,?_,b);rw[Km,e];rfl
def Zx0{w:Bool}{fs:List LF}(a:Sd (fs.map LF.abs)):(fs.reverse.drop 1).filterMap (λf=>f.h.num w)=Ys w (fs.map LF.abs):=by let(x,e,b):=Yd9 fs a;ext Ys;rw[<-List.map_reverse,List.filterMap_map];generalize fs.reverse.drop 1=ys at e;rw[e,List.filterMap_cons_none (by change x.h.num w=none;rw[b];rfl)];rfl
def Yh8{Γ G}:Rd K Γ G Yt Zk0 Zk8:=by
 rintro ds M Q Z ⟨M0,P,fs,C,u,w,rfl,I,sd,hw,q⟩;have sm:=LI.small (fs:=fs) 'o';delta Zk0 Zk8;rfl';show(_,Z0 I.o,?_);rfl';rw[Y03,<-List.map_drop];obtain⟨ys,hys⟩:∃ys,ys=fs.reverse.drop 1:=(_,rfl);rw[<-hys];have mem:∀y∈ys,y∈fs:=λy hy=>List.mem_reverse.mp (List.mem_of_mem_drop (hys ▸ hy));have ly:Lg ys<=200:=by rw[hys,List.length_drop,Dp];lia
 have I1:=I.app [Cell.lst (ys.map LF.d)];obtain⟨M1,hM1⟩:∃M1:Z3,M1=M++[Cell.lst (ys.map LF.d)]:=(_,rfl);have r1:Zg M1 (Lg M)=some (ys.map LF.d):=by rw[hM1];show Zh _ _ []
 rw[<-hM1] at I1 |-;have nA:ys.filterMap (λf=>f.h.num w)=Ys w (fs.map LF.abs):=by rw[hys];show Zx0 sd
 have lN:(Ys w (fs.map LF.abs)).length<=200:=by rw[<-nA];show nh (Ky _ _) ly
 show(_,r1,?_)
 try erw[capD,Aj,Dz,Lz,Kw,Ie,Iy,Option.join_some]
 show Ta (λi σ M'=>∃d,σ=[d,some (.str (wdS w))]/\M'=M1++[.lst (natD ((ys.take i).filterMap λf=>f.h.num w))]) (none,rfl,rfl) ?_ ?_ ?_
 .rintro i σ M' _ ⟨d,rfl,rfl⟩;show Zc r1
 .rintro i d σ M' S hd ⟨d0,rfl,eM⟩ hS;obtain⟨y,hy,rfl⟩:∃y,ys[i]?=some y/\d= .ref y.a:=by
   clear hS;rw[Dj] at hd;cases hy:ys[i]? with
   | none=>rw[hy] at hd;cases hd
   | some y=>rw[hy] at hd;cases hd;show(y,rfl,rfl)
  have hi:=(Ai.mp hy).1;have yo:=I1.f y (mem y (Df hy));obtain⟨tl,ra⟩:∃tl,Zg M' y.a=some (y.h.d::tl):=(_,by rw[eM];show Zc (Z0 yo.a));have snoc:∀o:Option Nat,y.h.num w=o->(ys.take (i+1)).filterMap (λf=>f.h.num w)=(ys.take i).filterMap (λf=>f.h.num w)++o.toList:=λo e=>by rw[Xd hy,Iq];cases o<;>simp[e]
  have yes:∀n:Nat,y.h.num w=some n->∃acc,Z2 M' (Lg M1)=some acc/\(Lg acc)<sizeLine/\S [↑y.a,some (.str (wdS w))] (M'.set (Lg M1) (.lst (acc++[.int n]))):=λn e=>by rw[eM];show(_,Z5 _ _ [],Za (by rw[Nn];have:=Ky (λf:LF=>f.h.num w) (ys.take i);rw[Hk] at this;lia),?_);rw[Rl];show hS _ _ (_,rfl,by rw[snoc _ e];change _=M1++[Cell.lst (natD (_++[n]))];rw[Zg5])
  have no:y.h.num w=none->S [↑y.a,some (.str (wdS w))] M':=λe=>hS _ _ (_,rfl,by rw[eM,snoc _ e];simp);change tgD [0] (.ref y.a) _ _;rw[tg_one];erw[List.set_cons_zero,Ie,Iy];clear hS snoc;show ix_l (k:=0) ra rfl ?_;cases eh:y.h with
  | form=>rw[eh] at ra no;erw[Hd.d];rfl';show ix_l (k:=0) ra rfl ?_;erw[Hd.d];rfl';show no rfl
  | ch dd=>rw[eh] at ra no;erw[Hd.d];rfl';show ix_l (k:=0) ra rfl ?_;erw[Hd.d];rfl';show no rfl
  | home b k=>
   rw[eh] at ra yes no;cases b with
   | true=>erw[Hd.d];rfl';show ix_l (k:=0) ra rfl ?_;erw[Hd.d];rfl';show yes k rfl
   | false=>
    erw[Hd.d];rfl';show ix_l (k:=0) ra rfl ?_;erw[Hd.d];rfl';cases w with
    | true=>erw[wdS];rfl';show ix_l (k:=0) ra rfl ?_;erw[Hd.d];rfl';show yes k rfl
    | false=>rw[nb 'k'];show no rfl
 rintro σ M' ⟨d,rfl,rfl⟩;rw[Al,Ii (na _),nA];have I2:=(I1.app [.lst (natD (Ys w (fs.map LF.abs)))]).app [Cell.lst []];have rn:Zg (M1++[.lst (natD (Ys w (fs.map LF.abs)))]++[Cell.lst []]) (Lg M1)=some (natD (Ys w (fs.map LF.abs))):=Zc (Zh _ _ []);show(nj _,Ti rn (Zh _ _ []) ?_);generalize M1++[.lst (natD (Ys w (fs.map LF.abs)))]++[Cell.lst []]=M3 at I2 rn |-;by_cases hn:Ys w (fs.map LF.abs)=[]
 .rw[hn];show q fs C M3 I2 (by ext gtA;rw[nc hn])
 .have en:(natD (Ys w (fs.map LF.abs))).isEmpty=false:=by cases h:Ys w (fs.map LF.abs) with | nil=>show absurd h hn | cons _ _=>rfl
  rw[en,nc rfl];have lpos:0< (Ys w (fs.map LF.abs)).length:=List.length_pos_iff.mpr hn;let(cc,ds,h1,h2,h3,h4):=I2.last sd 'o';show h1 _ (Ze (Z0 h2),Zv rn ?_);rw[Nn];rfl';rw[qm 'o'];have e0:=Kj u (show((Ys w (fs.map LF.abs)).length:Int)≠0 by lia);have e1:=Kh u (show(0:Int)< ((Ys w (fs.map LF.abs)).length:Int) by lia);obtain⟨n,hn'⟩:∃n,n=(Ys w (fs.map LF.abs)).getD (u % ((Ys w (fs.map LF.abs)).length:Int)).toNat 0:=(_,rfl);have at1:(Ys w (fs.map LF.abs))[(u % ((Ys w (fs.map LF.abs)).length:Int)).toNat]?=some n:=by rw[hn',Dd,Ah 'o'];rfl
  let(fs',J1,J2):=h4 [] (jmpF w n) (.tup [.str (wdS w),.int n]) (by rw[Y37];show na _) (by cases w<;>show(_,_,rfl,(rfl,rfl,rfl),rfl));rw[Au] at J1;show('o',Xe rn (Y13 e0 (Zv6 at1)) (Z1 'd',_,h2,Za 'o',q fs' C _ J1 ?_));rw[J2];ext gtA;rw[nb hn,<-hn']
def Yd2{Γ G}(g29:Γ[17]?=some Yq)(g32:Γ[20]?=some W3)(g33:Γ[21]?=some Zt)(g34:Γ[22]?=some Yt)(g35:Γ[23]?=some Zx)(g36:Γ[24]?=some Xk):Rd K Γ G X4 Zd6 Zb8:=by
 rintro H M Q Z ⟨N,P,a,C,c,k,g,l,rfl,hk,I,t,hw,hl,hg,q⟩;have sm:=LI.small (fs:=a) 'o';delta Zd6 Zb8;generalize n:(Ss.cons (S.ite (E.cmp Cm.lt (E.var 5) (E.int 8)) _ _) Ss.nil)=B;rfl';erw[g29];show(c,k,rfl,'o','o',?_);obtain⟨u,V⟩:∃u,u=mix c k:=(_,rfl);rw[<-V];rfl';rw[qm 'd'];subst n;generalize n:(Ss.cons (S.ite (E.bop true _) _ _) Ss.nil)=B;rfl';by_cases U:u % 20<8
 .rw[nc U];erw[g32];show(Y1 'd' 'd',_,c,g,l,rfl,hl,I.k.pL hg,λm k1=>?_);rw[qd 'd'];have j:=I.kp k1;have b:stA l c k (a.map LF.abs)=(if (Tc (u / 20) c l).1 then putA (.act (Tc (u / 20) c l).2 .nil) (a.map LF.abs) else if (a.map LF.abs).length<30 then(.ch (Tc (u / 20) c l).2,none,.nil)::a.map LF.abs else a.map LF.abs):=by ext stA;dsimp only;rw[<-V,nc U]
  rw[Sv] at b;ext Yj5;cases hd:(Tc (u / 20) c l).1 with
  | true=>rw[hd,nc rfl] at b;rw[nc rfl];erw[Dl.l,Ln.d];rfl';let(Y,H,r,A,h3,W):=j.last t 'o';let(h,T,R):=W [] (.act (Tc (u / 20) c l).2 .nil) (Dl.l (Tc (u / 20) c l).2).d (by rw[Vj,Zj];lia) (_,_,rfl,(rfl,rfl,rfl),rfl);rw[Au] at T;show r _ (Ze (Z0 A),_,A,Za 'o',q h C _ T (by rw[R,b]))
  | false=>
   rw[hd,nb Bf9] at b;rw[nb Bf9];erw[Ln.d];rfl';show Zv (Z0 j.o) ?_;rfl';rw[Al,Dp];by_cases x:Lg a<30
   .rw[nc 'o'];rw[nc x] at b;show(Ze (Z0 j.o),nj _,Z1 'd',_,Z4 (Z4 j.o),Za (by rw[Al,Dp];lia),q _ C _ (GV.push (.ch (Tc (u / 20) c l).2) j) ?_);rw[b];rfl
   .rw[nb 'o'];rw[nb x] at b;show q a C m j b.symm
 rw[nb U];subst n;generalize n:(Ss.cons (S.ite (E.cmp Cm.lt (E.var 5) (E.int 14)) _ _) Ss.nil)=B;rfl';have b:stA l c k (a.map LF.abs)=if u % 20<11/\(Lg a)<29 then opA (u / 20) k (a.map LF.abs) else if u % 20<14 then ctA (u / 20) (gtA (u / 40) (decide (u % 20 % 3≠2)) (a.map LF.abs)) else if u % 20=14 then ctA (u / 20) (putA (.fin d0 .nil) (a.map LF.abs)) else if 1<Lg a then ctA (u / 20) (clA (a.map LF.abs)) else a.map LF.abs:=by ext stA;dsimp only;rw[<-V,nb U,Sv]
 have s:∀(f:List LF) (v:Nat->Prop) (m:Z3),LI N P f v m->Sd (f.map LF.abs)->wA (f.map LF.abs)<=390->ctA (u / 20) (f.map LF.abs)=stA l c k (a.map LF.abs)->Xk [.ref P,.int (u / 20)] m (λ_ M=>Q .non M) noX:=λf v m j s1 w1 F=>(N,P,f,v,u / 20,rfl,j,s1,w1,λh C' O I' e=>q h C' O I' (e.trans F));have p:¬(u % 20<11/\(Lg a)<29)->tss (K,Γ,G) noX B {nx:=λ_ O=>Q .non O,rt:=Q} [↑P,some (.int c),some (.int k),↑g,some (.int u),some (.int (u % 20)),none] M:=λi=>by
  rw[nb i] at b;subst n;generalize n:(Ss.cons (S.ite (E.cmp Cm.eq (E.var 5) (E.int 14)) _ _) Ss.nil)=B;rfl';by_cases L:u % 20<14
  .rw[nc L] at b |-;erw[g34,g36];have e3:u % 20 % 3=((0:Nat):Int)\/u % 20 % 3=((1:Nat):Int)\/u % 20 % 3=((2:Nat):Int):='o';show(Y1 'd' 'd',Z1 'd',?_);rw[qm 'd'];have j:=I.app [Cell.lst [D.str "leave",.str "leave",.str "again"]];have gg:=t.gt (u / 40) (decide (u % 20 % 3≠2));have w:Yt [.ref P,.int (qdiv u 40),.str (wdS (decide (u % 20 % 3≠2)))] (M++[Cell.lst [D.str "leave",.str "leave",.str "again"]]) (λ_ m=>Z54 u 20/\Xk [.ref P,.int (qdiv u 20)] m (λ_ M=>Q .non M) noX) noX:=by rw[qd 'd',qd 'd'];show(N,P,a,C,u / 40,decide (u % 20 % 3≠2),rfl,j,t,'o',λf v m I2 X=>(Y1 'd' 'd',s f v m I2 (by rw[X];show gg.1) (by rw[X];lia) (by rw[X,b])))
   rcases e3 with e|e|e
   .rw[e] at w |-;show ix_l (k:=0) (Zh _ _ []) rfl w
   .rw[e] at w |-;show ix_l (k:=1) (Zh _ _ []) rfl w
   .rw[e] at w |-;show ix_l (k:=2) (Zh _ _ []) rfl w
  .rw[nb L] at b |-;subst n;generalize n:(Ss.cons (S.ite (E.cmp Cm.gt _ _) _ _) Ss.nil)=B;rfl';by_cases J:u % 20=14
   .rw[nc J] at b |-;erw[g36];let(Y,H,r,A,h3,W):=I.last t 'o';let(h,T,R):=W [] (.fin d0 .nil) Ln.fin.d (by rw[Sj,Zj];lia) (_,_,rfl,(rfl,rfl,rfl),rfl);rw[Au] at T;have pp:=t.pt (.fin d0 .nil);rw[Sj,Zj] at pp;show r _ (Ze (Z0 A),Z1 'd',_,A,Za 'o',Y1 'd' 'd',?_);rw[qd 'd'];show s h C _ T (by rw[R];show pp.1) (by rw[R];lia) (by rw[R,b])
   .rw[nb J] at b |-;subst n;rfl';show Zv (Z0 I.o) ?_;rfl';rw[Al,Dp];by_cases r:1<Lg a
    .rw[nc 'o'];rw[nc r] at b;erw[g33,g36];have Y:=t.cl (by rw[Sv];show r);show(N,P,a,C,rfl,I,t,r,'o',λf v m j F=>(Y1 'd' 'd',?_));rw[qd 'd'];show s f v m j (by rw[F];show Y.1) (by rw[F];lia) (by rw[F,b])
    .rw[nb 'o'];rw[nb r] at b;show q a C M I b.symm
 by_cases i:u % 20<11
 .rw[nc i];show Zv (Z0 I.o) ?_;rfl';rw[Al,Dp];by_cases y:Lg a<29
  .rw[nc 'o'];rw[nc (i,y)] at b;erw[g35];show(Y1 'd' 'd',N,P,a,C,_,k,rfl,hk,I,'o',λh C' O I' e=>q h C' O I' ?_);rw[e,b,qd 'd']
  .rw[nb 'o'];show p λz=>y z.2
 .rw[nb i,nb i];show p λz=>i z.1
def Y81{Γ G}(g33:Γ[21]?=some Zt)(g37:Γ[25]?=some X4):Rd K Γ G X3 Zd4 Zq0:=by
 rintro E M Q Z ⟨a,g,j,l,rfl,Y,W,hl,hg,q⟩;delta Zd4 Zq0;generalize L:Pe=B3;rfl';show(Z1 'd',nj _,Z1 'd',Z1 'd',?_);have e1:(M++[Cell.lst []]++[Cell.lst [D.tup [.str "form"],.ref (Lg M)]]:Z3).length=Lg M+2:=by simp
 have e2:(M++[Cell.lst []]:Z3).length=Lg M+1:=by simp
 erw[e1,e2];have J:Kp M (M++[Cell.lst []]++[Cell.lst [D.tup [.str "form"],.ref (Lg M)]]++[Cell.lst [D.ref (Lg M+1)]]):=((Ks.new _ _).app _).app _;have I0:LI M (Lg M+2) [(.form,Lg M+1,none,Lg M,.nil)] (λ_=>False) (M++[Cell.lst []]++[Cell.lst [D.tup [.str "form"],.ref (Lg M)]]++[Cell.lst [D.ref (Lg M+1)]]):=by
  show(J,?_,λf hf=>?_,by simp[LF.foot],λx A=>A.elim,λx A=>?_)
  .simp only[An];rw[Zl];rfl
  .cases Aq.mp hf;show(?_,([],?_,rfl,by change nl .nil<=400;rw[Zj];lia),λp hp=>by cases hp)
   .simp only[An];rw[Zl];rfl
   .simp only[An];show Z5 _ _ _
  .simp[LF.foot] at A;simp;lia
 generalize M++[Cell.lst []]++[Cell.lst [D.tup [.str "form"],.ref (Lg M)]]++[Cell.lst [D.ref (Lg M+1)]]=M1 at J I0 |-;show Zv (J.pL Y) ?_;rw[Al];rfl';show('o','o',?_);rw[Kl];show Ji (λi z F=>∃b C d,z=[↑a,↑g,some (.ref (Lg M+2)),d]/\LI M (Lg M+2) b C F/\b.map LF.abs=(Dn i).foldl (λb k=>stA l (j.getD k 0) k b) f0) (_,_,none,rfl,I0,rfl) ?_ ?_
 .rintro i z F P X ⟨b,C,d,rfl,I,u⟩ hP;rw[tg_one];delta E9;rfl';rw[Int.zero_add];show ix_l (k:=i) (I.k.pL Y) (by rw[Dj,Ah X];rfl) ?_;erw[g37];have s:=Zb2 l j i;show(M,Lg M+2,b,C,j[i],i,g,l,rfl,'o',I,by rw[u];show s.1,by rw[u];lia,hl,hg,λw V M2 U e=>hP _ _ (w,V,_,rfl,U,?_));rw[e,u,List.range_succ,Hu];change _=stA l (j.getD i 0) i _;rw[Dd,Ah X];rfl
 rintro z F ⟨b,C,d,rfl,I,u⟩;have s:=Zb2 l j (Lg j);subst L;delta Pe;generalize L:Pk=B1;rw[show(Dn (Lg j)).foldl (λb k=>stA l (j.getD k 0) k b) f0=runA l j from rfl] at u s;let(r,B):=Zi0 s.1 (na _);have fA:Cr l j=r:=by ext Cr;rw[B]
 change ts (K,Γ,G) noX (S.while_ _ Qy) _ _ _;show(λm z F=>∃b C d,z=[↑a,↑g,some (.ref (Lg M+2)),d]/\LI M (Lg M+2) b C F/\Sd (b.map LF.abs)/\wA (b.map LF.abs)<=390/\m=msA (b.map LF.abs)/\endA m (b.map LF.abs)=[(.form,none,r)],(_,b,C,d,rfl,I,by rw[u];show s.1,by rw[u];lia,rfl,by rw[u];show B),?_);rintro m z M2 ⟨b,C,d,rfl,I,s,hw,rfl,H⟩;rfl';show Zv (Z0 I.o) ?_;rfl';rw[Al,Dp];by_cases N:1<Lg b
 .have v:1< (b.map LF.abs).length:=by rw[Sv];show N
  rw[nc 'o'];delta Qy;rfl';erw[g33];have cc:=s.cl v;have mm:=Y90 s v;show(M,Lg M+2,b,C,rfl,I,s,N,hw,λw V M3 U e=>(_,?_,w,V,_,rfl,U,by rw[e];show cc.1,by rw[e];lia,rfl,?_))
  .rw[e];show mm
  .rw[e,<-H];obtain⟨n,W⟩:∃n,msA (b.map LF.abs)=n+1:=(msA (b.map LF.abs) - 1,'o');rw[W,show endA (n+1) (b.map LF.abs)=endA n (clA (b.map LF.abs)) from nc v];show Ye6 cc.1 (na _) 'o'
 .rw[nb 'o'];rw[S4 (by rw[Sv];show N)] at H;obtain⟨f,rfl⟩:∃f,b=[f]:=Ke.mp (by have:=congrArg Lg H;rwa[Sv] at this);have T:f.abs=(.form,none,r):=(De H).1;let(fh,fa,O,fc,ft):=f;have eh:fh= .form:=congrArg AF.h T;have ey:O.map (·.2)=none:=congrArg AF.y T;have et:ft=r:=congrArg AF.t T;have R:O=none:=by cases O with | none=>rfl | some p=>cases ey
  subst eh R et;have fo:=I.f _ Ad;let(E,c1,c2,_):=fo.c;subst L;delta Pk;rfl';show ix_l (k:=0) (Z0 I.o) rfl (ix_l (k:=1) (Z0 fo.a) rfl ?_);show q C M2 fc E I.k c1 (by rw[fA];show c2) λx A=>(I.c x A).2.1
def ht:FF->Nat
 | .nil=>0
 | .act _ r=>ht r
 | .fin _ r=>ht r
 | .lv _ r=>ht r
 | .ag _ r=>ht r
 | .ch _ y n r=>max (1+max (ht y) (ht n)) (ht r)
 | .rd _ b r=>max (1+ht b) (ht r)
 | .pt _ b r=>max (1+ht b) (ht r)
def Y21(s t:FF):ht (TD.app s t)=max (ht s) (ht t):=by
 induction s with
 | nil=>simp[TD.app,ht]
 | act a r c=>show c
 | fin a r c=>show c
 | lv n r c=>show c
 | ag n r c=>show c
 | ch a y n r _ _ c=>erw[TD.app,ht,c,Nat.max_assoc]
 | rd k b r _ c=>erw[TD.app,ht,c,Nat.max_assoc]
 | pt k b r _ c=>erw[TD.app,ht,c,Nat.max_assoc]
def dep3(h1:a<=1+2 * p)(h2:b<=1+2 * q)(h3:c<=1+2 * r):max (max (a+1) (b+1)+1) c<=1+2 * max (1+max p q) r:=by have k1:=Nat.le_max_left (1+max p q) r;have k2:=Nat.le_max_right (1+max p q) r;have k3:=Nat.le_max_left p q;have k4:=Nat.le_max_right p q;generalize max (1+max p q) r=m at *;generalize max p q=s at *;have:max (a+1) (b+1)<=2 * m:=Nat.max_le.mpr ('o','o');show Nat.max_le.mpr ('o','o')
def Yi7(s:FF):Go (datF s)<=1+2 * ht s:=by
 have dO:∀o:Opd,Hb o.p=0:=λo=>by cases o<;>simp[Opd.p,Hb]
 induction s with
 | nil=>show nj _
 | act d r ih=>erw[datF,Go,Hb,dO,ht,Nat.zero_max,Nat.max_zero];show Nat.max_le.mpr ('o',ih)
 | fin d r ih=>erw[datF,Go,Hb,ht,Nat.zero_max,Nat.max_zero];show Nat.max_le.mpr ('o',ih)
 | lv n r ih=>erw[datF,Go,Hb,ht,Nat.zero_max,Nat.max_zero];show Nat.max_le.mpr ('o',ih)
 | ag n r ih=>erw[datF,Go,Hb,ht,Nat.zero_max,Nat.max_zero];show Nat.max_le.mpr ('o',ih)
 | ch d y n r iy iN ih=>erw[datF,Go,Hb,dO,ht,Nat.zero_max,Nat.max_zero];show dep3 iy iN ih
 | rd k b r ib ih=>have:=dep3 ib ib ih;rw[Nat.max_self,Nat.max_self] at this;erw[datF,Go,Hb,ht,Nat.zero_max,Nat.max_zero];show this
 | pt k b r ib ih=>have:=dep3 ib ib ih;rw[Nat.max_self,Nat.max_self] at this;erw[datF,Go,Hb,ht,Nat.zero_max,Nat.max_zero];show this
def AF.yy(f:AF):FF:=f.y.getD .nil
def AF.ns(f:AF):LQ:=(f.h.num true).toList++TD.nums f.yy++TD.nums f.t
def nmA(fs:List AF):LQ:=fs.flatMap AF.ns
def hsA(w:Bool)(fs:List AF):LQ:=fs.filterMap λf=>f.h.num w
def ctF(s:FF):Nat:=(TD.acts s).length+TD.nr s
def Hd.ct:Hd->Nat
 | .form=>0
 | .ch _=>1
 | .home r _=>if r then 1 else 0
def AF.ct(f:AF):Nat:=f.h.ct+ctF f.yy+ctF f.t
def cnA(fs:List AF):Nat:=(fs.map AF.ct).sum
def GA:List AF->Prop
 | []=>True
 | f::r=>(∀m,TD.FL m f.yy\/TD.FL m f.t->m∈hsA true (f::r))/\(∀m,TD.FA m f.yy\/TD.FA m f.t->m∈hsA false (f::r))/\okF f.yy/\okF f.t/\(∀d,f.h= .ch d->d.ok)/\ht f.yy+Lg r<=29/\ht f.t+Lg r<=29/\GA r
structure AI(b n:Nat)(fs:List AF):Prop where
 sd:Sd fs
 nd:(nmA fs).Nodup
 lt:∀x∈nmA fs,x<b
 ct:cnA fs<=n
 g:GA fs
def V2(f:AF)(r:List AF):cnA (f::r)=f.ct+cnA r:=by simp[cnA]
def Ze9(s t:FF):ctF (TD.app s t)=ctF s+ctF t:=by ext ctF;rw[TD.acts_app,TD.nr_app,Ac];lia
def Xm(f:AF)(r:List AF):nmA (f::r)=f.ns++nmA r:=rfl
def Zo0(h:okF s)(g:okF t):okF (TD.app s t):=λd a=>by
 rw[TD.acts_app] at a;rcases Am.mp a with a|a
 .show h d a
 .show g d a
def Yd8{w:Bool}{f a:AF}(h:a.h=f.h)(r:List AF):hsA w (a::r)=hsA w (f::r):=by ext hsA;rw[Du,Du,h]
def Yu5(f:AF)(c:f.h≠ .form)(a:(∃b k,f.h= .home b k)->f.y=none):ctF f.mk'=f.ct/\(TD.nums f.mk').Perm f.ns:=by
 let(h,y,t):=f;cases h with
 | form=>show absurd rfl c
 | ch d=>
  show(?_,?_)
  .show(d::(TD.acts (y.getD .nil)++TD.acts t++TD.acts .nil)).length+(TD.nr (y.getD .nil)+TD.nr t+0)=1+ctF (y.getD .nil)+ctF t;ext ctF;erw[Af,Ac,TD.acts,Dy];lia
  .first | (change List.Perm (TD.nums (y.getD .nil)++TD.nums t++[]) _;rw[Au];exact .refl _) | simp[AF.mk',AF.ns,AF.yy,TD.nums,Hd.num]
 | home b k=>
  have:y=none:=a (b,k,rfl);subst this;cases b with
  | true=>
   show(?_,?_)
   .show(TD.acts t++[]).length+(1+TD.nr t+0)=1+(0+0)+ctF t;ext ctF;erw[Ac,Dy];lia
   .show(k::(TD.nums t++[])).Perm ([k]++[]++TD.nums t);simp
  | false=>
   show(?_,?_)
   .show(TD.acts t++[]).length+(TD.nr t+0)=0+(0+0)+ctF t;ext ctF;erw[Ac,Dy];lia
   .show(k::(TD.nums t++[])).Perm ([k]++[]++TD.nums t);simp
def AI.up(h:AI b n fs)(d:b<=b')(c:n<=n'):AI b' n' fs:=(h.sd,h.nd,λx a=>ng (h.lt x a) d,nh h.ct c,h.g)
def AI.put(h:AI b n fs){k:Nat}(p:TD.nums s=[])(u:ctF s=k)(o:okF s)(l:ht s=0)(j:∀m,TD.FL m s->m∈hsA true fs)(i:∀m,TD.FA m s->m∈hsA false fs):AI b (n+k) (putA s fs):=by
 let(f,r,rfl):=h.sd.ne;let(g1,g2,g3,g4,g5,g6,g7,g8):=h.g;have e:(f.put s).ns=f.ns:=by unfold AF.ns AF.put AF.yy;dsimp only;rw[TD.nums_app,p,Au]
 have q:(f.put s).ct=f.ct+k:=by unfold AF.ct AF.put AF.yy;dsimp only;rw[Ze9];lia
 have d:∀w,hsA w (f.put s::r)=hsA w (f::r):=λw=>Yd8 rfl r;show((h.sd.pt s).1,?_,?_,?_,?_)
 .show(nmA (f.put s::r)).Nodup;rw[Xm,e];show h.nd
 .intro x c;replace c:x∈nmA (f.put s::r):=c;rw[Xm,e] at c;show h.lt x c
 .change cnA (f.put s::r)<=_;have:=h.ct;rw[V2] at this |-;rw[q];lia
 .change GA (f.put s::r);show(λm a=>?_,λm a=>?_,g3,Zo0 g4 o,g5,g6,?_,g8)
  .rw[d];rcases a with a|a
   .show g1 m (.inl a)
   .rcases(TD.F_app m f.t s).1 a with a|a
    .show g1 m (.inr a)
    .show j m a
  .rw[d];rcases a with a|a
   .show g2 m (.inl a)
   .rcases(TD.F_app m f.t s).2 a with a|a
    .show g2 m (.inr a)
    .show i m a
  .change ht (TD.app f.t s)+_<=_;rw[Y21,l];lia
def AI.add{b n:Nat}{fs:List AF}(h:AI b n fs)(k:hd≠ .form)(o:Lg fs<=29)(l:b<=b')(a:∀m,hd.num true=some m->b<=m/\m<b')(f:∀d,hd= .ch d->d.ok):AI b' (n+hd.ct) ((hd,none,.nil)::fs):=by
 have j:((hd,none,.nil):AF).ns=(hd.num true).toList:=by unfold AF.ns AF.yy;simp[TD.nums]
 have z:∀m,¬TD.FL m (.nil:FF):=λm h=>h;have i:∀m,¬TD.FA m (.nil:FF):=λm h=>h;show((h.sd.add k).1,?_,?_,?_,λm a=>?_,λm a=>?_,(λd hd=>by cases hd),(λd hd=>by cases hd),f,by change 0+_<=29;lia,by change 0+_<=29;lia,h.g)
 .rw[Xm,j];cases e:hd.num true with
  | none=>show h.nd
  | some m=>show Ao.mpr (λw=>by have:=h.lt m w;have:=(a m e).1;lia,h.nd)
 .intro x c;rw[Xm,j] at c;rcases Am.mp c with c|c
  .cases e:hd.num true with
   | none=>rw[e] at c;cases c
   | some m=>rw[e] at c;cases Aq.mp c;show(a x e).2
  .show ng (h.lt x c) l
 .rw[V2];have:((hd,none,.nil):AF).ct=hd.ct:=by unfold AF.ct AF.yy;change hd.ct+0+0=_;lia
  have:=h.ct;lia
 .rcases a with a|a
  .exact(z m a).elim
  .exact(z m a).elim
 .rcases a with a|a
  .exact(i m a).elim
  .exact(i m a).elim
def Ql{f:AF}(s:f.h≠ .form):(∃d,f.h= .ch d/\f.mk'= .ch d f.yy f.t .nil)\/(∃k,f.h= .home true k/\f.mk'= .rd k f.t .nil)\/∃k,f.h= .home false k/\f.mk'= .pt k f.t .nil:=by
 ext AF.mk';cases e:f.h with
 | form=>show absurd e s
 | ch d=>show .inl (d,rfl,rfl)
 | home b k=>cases b with
  | false=>show .inr (.inr (k,rfl,rfl))
  | true=>show .inr (.inl (k,rfl,rfl))
def Yt3{f:AF}(s:f.h≠ .form)(g:∀m,TD.FL m f.yy\/TD.FL m f.t->m∈(f.h.num true).toList++H)(m:Nat)(a:TD.FL m f.mk'):m∈H:=by
 have g:=g m;rcases Ql s with⟨d,e,c⟩|⟨k,e,c⟩|⟨k,e,c⟩<;>rw[c] at a<;>rw[e] at g
 .show g (a.imp id λh=>h.resolve_right id)
 .let(b,a):=a.resolve_right id;show(Ab.mp (g (.inr a))).resolve_left b
 .let(b,a):=a.resolve_right id;show(Ab.mp (g (.inr a))).resolve_left b
def Yt0{f:AF}(s:f.h≠ .form)(g:∀m,TD.FA m f.yy\/TD.FA m f.t->m∈(f.h.num false).toList++H)(m:Nat)(a:TD.FA m f.mk'):m∈H:=by
 have g:=g m;rcases Ql s with⟨d,e,b⟩|⟨k,e,b⟩|⟨k,e,b⟩<;>rw[b] at a<;>rw[e] at g
 .show g (a.imp id λh=>h.resolve_right id)
 .let(c,a):=a.resolve_right id;show(Ab.mp (g (.inr a))).resolve_left c
 .show g (.inr (a.resolve_right id))
def Yw7{f:AF}(s:f.h≠ .form)(g3:okF f.yy)(g4:okF f.t)(g5:∀d,f.h= .ch d->d.ok):okF f.mk':=by
 rcases Ql s with⟨d,e,b⟩|⟨k,e,b⟩|⟨k,e,b⟩<;>rw[b]<;>intro x a
 .replace a:x∈d::(TD.acts f.yy++TD.acts f.t++[]):=a;erw[Au,Ab,Am] at a;rcases a with a|a|a
  .rw[a];show g5 d e
  .show g3 x a
  .show g4 x a
 .replace a:x∈TD.acts f.t++[]:=a;rw[Au] at a;show g4 x a
 .replace a:x∈TD.acts f.t++[]:=a;rw[Au] at a;show g4 x a
def Yx2{f:AF}(s:f.h≠ .form)(g6:ht f.yy+(n+1)<=29)(g7:ht f.t+(n+1)<=29):ht f.mk'+n<=29:=by
 rcases Ql s with⟨d,e,a⟩|⟨k,e,a⟩|⟨k,e,a⟩<;>rw[a]
 .change max (1+max (ht f.yy) (ht f.t)) 0+n<=29;have:max (ht f.yy) (ht f.t)<=28 - n:=Nat.max_le.mpr ('o','o');rw[Nat.max_zero];lia
 .change max (1+ht f.t) 0+n<=29;rw[Nat.max_zero];lia
 .change max (1+ht f.t) 0+n<=29;rw[Nat.max_zero];lia
def AI.cl(h:AI b n fs)(q:1<Lg fs):AI b n (clA fs):=by
 match fs,q with
 | f::g::r,q=>
 let(i,C,P):=h.sd.tl;let(g1,g2,g3,g4,g5,g6,g7,g8):=h.g;have c:=(h.sd.cl q).1;have j:∀w,hsA w (f::g::r)=(f.h.num w).toList++hsA w (g::r):=λw=>by ext hsA;rw[Du];cases f.h.num w<;>rfl
 cases l:f.half with
 | true=>
  have e:clA (f::g::r)=(f.h,some f.t,.nil)::g::r:=by show(if f.half then _ else _)=_;rw[l];rfl
  have B:f.y=none:=by
   ext l AF.half;split at l
   .assumption
   .cases l
  have s:f.yy= .nil:=by ext AF.yy;rw[B];rfl
  rw[e] at c |-;have A:((f.h,some f.t,.nil):AF).ns=f.ns:=by ext AF.ns;rw[s];simp[AF.yy,TD.nums]
  have N:((f.h,some f.t,.nil):AF).ct=f.ct:=by ext AF.ct;rw[s];change f.h.ct+ctF f.t+0=f.h.ct+0+ctF f.t;lia
  have k:∀w,hsA w ((f.h,some f.t,.nil)::g::r)=hsA w (f::g::r):=λw=>Yd8 rfl _;show(c,by rw[Xm,A];show h.nd,λx o=>h.lt x (by rw[Xm,A] at o;show o),by rw[V2,N,<-V2];show h.ct,λm a=>?_,λm a=>?_,g4,(λd K=>by cases K),g5,g7,by change 0+_<=29;have:=g7;lia,g8)
  .rw[k];rcases a with a|a
   .show g1 m (.inr a)
   .show a.elim
  .rw[k];rcases a with a|a
   .show g2 m (.inr a)
   .show a.elim
 | false=>
  have e:clA (f::g::r)=g.put f.mk'::r:=by show(if f.half then _ else _)=_;rw[l];rfl
  rw[e] at c |-;let(R,I):=Yu5 f i C;let(v,u,H,G,F,E,Q,D):=g8;have z:(nmA (g.put f.mk'::r)).Perm (nmA (f::g::r)):=by
   rw[Xm,Xm,Xm];have O:(g.put f.mk').ns=g.ns++TD.nums f.mk':=by unfold AF.ns AF.put AF.yy;dsimp only;rw[TD.nums_app,An,An,An]
   rw[O,<-An];show((List.Perm.append_left _ I).trans List.perm_append_comm).append_right _
  have k:∀w,hsA w (g.put f.mk'::r)=hsA w (g::r):=λw=>Yd8 rfl _;have L:=Yt3 i λm a=>by rw[<-j];show g1 m a
  have M:=Yt0 i λm a=>by rw[<-j];show g2 m a
  have p:=Yw7 i g3 g4 g5;have J:=Yx2 (n:=Lg r) i g6 g7;show(c,z.nodup_iff.mpr h.nd,λx o=>h.lt x (z.mem_iff.mp o),?_,λm a=>?_,λm a=>?_,H,Zo0 G p,F,E,?_,D)
  .have:=h.ct;rw[V2,V2] at this;rw[V2];have:(g.put f.mk').ct=g.ct+ctF f.mk':=by unfold AF.ct AF.put AF.yy;dsimp only;rw[Ze9];lia
   lia
  .rw[k];rcases a with a|a
   .show v m (.inl a)
   .rcases(TD.F_app m g.t f.mk').1 a with a|a
    .show v m (.inr a)
    .show L m a
  .rw[k];rcases a with a|a
   .show u m (.inl a)
   .rcases(TD.F_app m g.t f.mk').2 a with a|a
    .show u m (.inr a)
    .show M m a
  .change ht (TD.app g.t f.mk')+_<=29;rw[Y21];lia
def AI.ct'{b n:Nat}{fs:List AF}(h:AI b n fs)(u:Int):AI b n (ctA u fs):=by
 ext ctA;split
 .rename_i z;show h.cl z.2
 .show h
def Qn{s:FF}(h:TD.acts s=[]):okF s:=λd a=>by rw[h] at a;cases a
def AI.gt{b n:Nat}{fs:List AF}(h:AI b n fs)(u:Int)(w:Bool):AI b n (gtA u w fs):=by
 ext gtA;split
 .show h
 .rename_i e;have f:=List.length_pos_iff.mpr e;have g:=Kh u (show(0:Int)< ((Ys w fs).length:Int) by lia);have i:=Kj u (show((Ys w fs).length:Int)≠0 by lia);have c:(Ys w fs).getD (u % ((Ys w fs).length:Int)).toNat 0∈hsA w fs:=by
   rw[Dd,Ah 'o'];have d:∀x∈Ys w fs,x∈hsA w fs:=λx a=>by ext a Ys;rw[List.filterMap_reverse] at a;show List.mem_reverse.mp a
   show d _ (Hs _)
  generalize (Ys w fs).getD (u % ((Ys w fs).length:Int)).toNat 0=m at c |-;cases w with
  | true=>show h.put (s:= .lv m .nil) (k:=0) rfl rfl (Qn rfl) rfl (λx a=>by rcases a with rfl|a;show c;show a.elim) (λx a=>a.elim)
  | false=>show h.put (s:= .ag m .nil) (k:=0) rfl rfl (Qn rfl) rfl (λx a=>a.elim) (λx a=>by rcases a with rfl|a;show c;show a.elim)
def AI.op{k n:Nat}{fs:List AF}(h:AI (97 * k) n fs)(f:Lg fs<29)(u:Int):AI (97 * (k+1)) (n+1) (opA u k fs):=by
 have i:=Kj (u / 3) (show(48:Int)≠0 by decide);have g:=Kh (u / 3) (show(0:Int)<48 by decide);obtain⟨x,c⟩:∃x,x=(u / 3 % 48).toNat:=(_,rfl);have b:x<48:='o';ext opA;rw[<-c];dsimp only;have a:AI (97 * k+48) n (if 0<u % 3 then(.home false (97 * k+x),none,.nil)::fs else fs)/\(if 0<u % 3 then((.home false (97 * k+x),none,.nil):AF)::fs else fs).length<=29:=by
  split
  .exact((h.add (hd:= .home false (97 * k+x)) (b':=97 * k+48) (by intro z;cases z) 'o' 'o' (λm e=>by cases e;lia) (λd e=>by cases e)),by rw[Af];lia)
  .exact(h.up 'o' (na _),'o')
 split
 .show a.1.up 'o' 'o'
 .show a.1.add (hd:= .home true (97 * k+x+48)) (b':=97 * (k+1)) (by intro z;cases z) a.2 'o' (λm e=>by cases e;lia) (λd e=>by cases e)
def Yx1:d0.ok:=('k',rfl,'k',rfl)
def AI.st{k n:Nat}{fs:List AF}{l:LS}(i:Lg l=4)(g:∀x∈l,Db (.str x)=true)(h:AI (97 * k) n fs)(c:Int):AI (97 * (k+1)) (n+1) (stA l c k fs):=by
 have a:∀{fs:List AF} {m:Nat},m<=n+1->AI (97 * k) m fs->AI (97 * (k+1)) (n+1) fs:=λj h=>h.up 'o' j;ext stA;dsimp only;split
 .split
  .refine a (na _) (h.put (k:=1) rfl rfl (λx f=>?_) rfl (λ_ z=>z.elim) (λ_ z=>z.elim));cases Aq.mp f;show Ze2 i g _ _
  split
  .rename_i b;show a (na _) (h.add (hd:= .ch _) (by intro z;cases z) 'o' (na _) (λm e=>by cases e) (λd e=>?_));cases e;show Ze2 i g _ _
  .show a 'o' h
 split
 .rename_i b;show h.op b.2 _
 split
 .show a 'o' ((h.gt _ _).ct' _)
 split
 .refine a (na _) (AI.ct' (h.put (s:= .fin d0 .nil) (k:=1) rfl rfl (λx f=>?_) rfl (λ_ z=>(show False from z).elim) (λ_ z=>(show False from z).elim)) _);cases Aq.mp f;show Yx1
 split
 .rename_i z;show a 'o' ((h.cl z).ct' _)
 .show a 'o' h
def AI.run{l:LS}(h:Lg l=4)(b:∀x∈l,Db (.str x)=true)(c:List Int)(n:Nat):AI (97 * n) n ((Dn n).foldl (λfs k=>stA l (c.getD k 0) k fs) f0):=by
 induction n with
 | zero=>show((rfl,rfl),Io,(λx g=>by cases g),na _,(λm a=>by rcases a with a|a<;>show a.elim),(λm a=>by rcases a with a|a<;>show a.elim),Qn rfl,Qn rfl,(λd e=>by cases e),'d','d',trivial)
 | succ n f=>rw[List.range_succ,Hu];show AI.st h b f _
def AI.end{b n:Nat}(m:Nat):∀{fs:List AF},AI b n fs->AI b n (endA m fs)/\wA (endA m fs)<=wA fs:=by
 induction m with
 | zero=>intro fs h;show(h,na _)
 | succ m c=>
  intro fs h;by_cases a:1<Lg fs
  .rw[show endA (m+1) fs=endA m (clA fs) from nc a];have:=c (h.cl a);have:=(h.sd.cl a).2;show((c (h.cl a)).1,'o')
  .rw[S4 a];show(h,na _)
structure Fw(s:FF):Prop where
 k:TD.Wk s
 o:okF s
 z:nl s<=400
 c:ctF s<=60
 h:ht s<=29
def Y88{l:LS}(d:Lg l=4)(c:∀x∈l,Db (.str x)=true){a:List Int}(j:Lg a<=60):Fw (Cr l a):=by
 have A:=AI.run d c a (Lg a);have W:=Zb2 l a (Lg a);rw[show(Dn (Lg a)).foldl (λe k=>stA l (a.getD k 0) k e) f0=runA l a from rfl] at A W;let(E,h):=A.end (msA (runA l a));let(t,b):=Zi0 W.1 (na _);have f:Cr l a=t:=by ext Cr;rw[b]
 rw[b] at E h;rw[f];let(g1,g2,g3,g4,g5,g6,g7,_):=E.g;show((?_,λm z=>?_,λm z=>?_),g4,?_,?_,g7)
 .have:=E.nd;simpa[nmA,AF.ns,AF.yy,TD.nums,Hd.num] using this
 .have:=g1 m (.inr z);cases this
 .have:=g2 m (.inr z);cases this
 .have i:wA [((.form,none,t):AF)]=nl t+0+3:=by unfold wA AF.w;simp[Zj]
  lia
 .have n:=E.ct;have:cnA [((.form,none,t):AF)]=0+0+ctF t:=by unfold cnA AF.ct AF.yy;simp[Hd.ct,ctF,TD.acts,TD.nr]
  lia
def sts:FF->List FF
 | .nil=>[]
 | .act d r=> .act d .nil::sts r
 | .fin d r=> .fin d .nil::sts r
 | .lv n r=> .lv n .nil::sts r
 | .ag n r=> .ag n .nil::sts r
 | .ch d y n r=> .ch d y n .nil::sts r
 | .rd k b r=> .rd k b .nil::sts r
 | .pt k b r=> .pt k b .nil::sts r
def pts:FF->List (Option FF)
 | .nil=>[]
 | .act _ _=>[none,none,none,none,none]
 | .fin _ _=>[none]
 | .lv _ _=>[none,none]
 | .ag _ _=>[none,none]
 | .ch _ y n _=>[none,none,none,none,some y,some n]
 | .rd _ b _=>[none,none,some b]
 | .pt _ b _=>[none,none,some b]
def dp:FF->Nat
 | .nil=>0
 | .act _ r=>dp r
 | .fin _ r=>dp r
 | .lv _ r=>dp r
 | .ag _ r=>dp r
 | .ch _ y n r=>max (max (dp y) (dp n)+1) (dp r)
 | .rd _ b r=>max (dp b+1) (dp r)
 | .pt _ b r=>max (dp b+1) (dp r)
def PR(C:Nat->Prop)(M:Z3)(x:D):Option FF->Prop
 | none=>(∃z,x= .str z)\/∃i,x= .int i
 | some u=>∃c a,x= .ref c/\C c/\Z2 M c=some a/\RTs C M (ofF u) a
def PRs(C:Nat->Prop)(M:Z3):LD->List (Option FF)->Prop
 | [],[]=>True
 | x::a,o::b=>PR C M x o/\PRs C M a b
 | _,_=>False
def PRs.at:∀{xs:LD} {os:List (Option FF)} {j:Nat} {x:D},PRs C M xs os->xs[j]?=some x->∃o,os[j]?=some o/\PR C M x o
 | [],_,j,x,_,h=>by simp at h
 | y::xs,[],j,x,h,_=>h.elim
 | y::xs,o::os,0,x,h,e=>by cases e;show(o,rfl,h.1)
 | y::xs,o::os,j+1,x,h,e=>PRs.at (xs:=xs) (os:=os) h.2 e
def PRs.len:∀{xs:LD} {os:List (Option FF)},PRs C M xs os->(Lg xs)=Lg os
 | [],[],_=>rfl
 | y::xs,[],h=>h.elim
 | [],o::os,h=>h.elim
 | y::xs,o::os,h=>by simp[PRs.len h.2]
def pr_o(C:Nat->Prop)(M:Z3)(o:Opd):PR C M o.d none:=by cases o;show .inl (_,rfl);show .inr (_,rfl)
def pr_s(C:Nat->Prop)(M:Z3)(z:Str):PR C M (.str z) none:= .inl (_,rfl)
def pr_i(C:Nat->Prop)(M:Z3)(i:Int):PR C M (.int i) none:= .inr (_,rfl)
def O7(s:FF):∀{es:LD} {i:Nat} {d:D},RTs C M (ofF s) es->es[i]?=some d->∃t xs,(sts s)[i]?=some t/\Wj t=true/\RTs C M (ofF t) [d]/\d= .tup xs/\PRs C M xs (pts t):=by
 induction s with
 | nil=>intro es i d h e;rw[show es=[] from h] at e;simp at e
 | act a r f=>
  rintro es i d ⟨x,e,rfl,c,h⟩ g;cases i with
  | zero=>cases g;show(_,_,rfl,rfl,.one c,c.1,pr_s ..,pr_s ..,pr_o ..,pr_s ..,pr_o ..,trivial)
  | succ i=>show f h g
 | fin a r f=>
  rintro es i d ⟨x,e,rfl,c,h⟩ g;cases i with
  | zero=>cases g;show(_,_,rfl,rfl,.one c,c.1,pr_s ..,trivial)
  | succ i=>show f h g
 | lv n r f=>
  rintro es i d ⟨x,e,rfl,c,h⟩ g;cases i with
  | zero=>cases g;show(_,_,rfl,rfl,.one c,c.1,pr_s ..,pr_i ..,trivial)
  | succ i=>show f h g
 | ag n r f=>
  rintro es i d ⟨x,e,rfl,c,h⟩ g;cases i with
  | zero=>cases g;show(_,_,rfl,rfl,.one c,c.1,pr_s ..,pr_i ..,trivial)
  | succ i=>show f h g
 | ch a y n r _ _ f=>
  rintro es i d ⟨x,e,rfl,c,h⟩ g;cases i with
  | zero=>cases g;have o:=RTs.one c;let(q,A,p,z,rfl,m,l,j,w,v,u):=c;show(_,_,rfl,rfl,o,rfl,pr_s ..,pr_o ..,pr_s ..,pr_o ..,(_,_,rfl,m,j,w),(_,_,rfl,l,v,u),trivial)
  | succ i=>show f h g
 | rd k b r _ f=>
  rintro es i d ⟨x,e,rfl,c,h⟩ g;cases i with
  | zero=>cases g;have o:=RTs.one c;let(q,p,rfl,m,l,j):=c;show(_,_,rfl,rfl,o,rfl,pr_s ..,pr_i ..,(_,_,rfl,m,l,j),trivial)
  | succ i=>show f h g
 | pt k b r _ f=>
  rintro es i d ⟨x,e,rfl,c,h⟩ g;cases i with
  | zero=>cases g;have o:=RTs.one c;let(q,p,rfl,m,l,j):=c;show(_,_,rfl,rfl,o,rfl,pr_s ..,pr_i ..,(_,_,rfl,m,l,j),trivial)
  | succ i=>show f h g
def isin(w:Bool)(k:Nat)(s:FF):Bool:=if w then TD.hl k s else TD.ha k s
def inO(w:Bool)(k:Nat):Option FF->Bool
 | some u=>isin w k u
 | none=>false
def hasS(w:Bool)(k:Nat)(t:FF):Bool:=isJF w k t || (pts t).any (inO w k)
def Z25(w:Bool)(k:Nat)(s:FF):isin w k s=(sts s).any (hasS w k):=by
 induction s with
 | nil=>cases w<;>rfl
 | act a r c=>rw[sts,Ax,<-c];cases w<;>rfl
 | fin a r c=>rw[sts,Ax,<-c];cases w<;>rfl
 | lv n r c=>rw[sts,Ax,<-c];cases w<;>simp[isin,hasS,isJF,pts,inO,TD.hl,TD.ha]
 | ag n r c=>rw[sts,Ax,<-c];cases w<;>simp[isin,hasS,isJF,pts,inO,TD.hl,TD.ha]
 | ch a y n r _ _ c=>rw[sts,Ax,<-c];cases w<;>simp[isin,hasS,isJF,pts,inO,TD.hl,TD.ha,Bool.or_assoc]
 | rd l b r _ c=>rw[sts,Ax,<-c];cases w<;>simp[isin,hasS,isJF,pts,inO,TD.hl,TD.ha]
 | pt l b r _ c=>rw[sts,Ax,<-c];cases w<;>simp[isin,hasS,isJF,pts,inO,TD.hl,TD.ha]
def Rt{s t:FF}(h:okF s)(m:t∈sts s):okF t/\∀u,some u∈pts t->okF u:=by
 induction s with
 | nil=>cases m
 | act a r ih=>
  rcases Ab.mp m with rfl|m
  .exact(λd hd=>h d (by simp[TD.acts] at hd;simp[TD.acts,hd]),λu hu=>by simp[pts] at hu)
  .show ih (λd hd=>h d (by simp[TD.acts,hd])) m
 | fin a r ih=>
  rcases Ab.mp m with rfl|m
  .exact(λd hd=>h d (by simp[TD.acts] at hd;simp[TD.acts,hd]),λu hu=>by simp[pts] at hu)
  .show ih (λd hd=>h d (by simp[TD.acts,hd])) m
 | lv n r ih=>
  rcases Ab.mp m with rfl|m
  .exact(λd hd=>(by simp[TD.acts] at hd),λu hu=>by simp[pts] at hu)
  .show ih h m
 | ag n r ih=>
  rcases Ab.mp m with rfl|m
  .exact(λd hd=>(by simp[TD.acts] at hd),λu hu=>by simp[pts] at hu)
  .show ih h m
 | ch a y n r _ _ ih=>
  rcases Ab.mp m with rfl|m
  .refine(λd hd=>h d (by simp[TD.acts] at hd |-;rcases hd with hd|hd|hd<;>simp[hd]),λu hu d hd=>h d ?_);simp[pts] at hu;rcases hu with rfl|rfl<;>simp[TD.acts,hd]
  .show ih (λd hd=>h d (by simp[TD.acts,hd])) m
 | rd l b r _ ih=>
  rcases Ab.mp m with rfl|m
  .exact(λd hd=>h d (by simp[TD.acts] at hd;simp[TD.acts,hd]),λu hu d hd=>h d (by simp[pts] at hu;subst hu;simp[TD.acts,hd]))
  .show ih (λd hd=>h d (by simp[TD.acts,hd])) m
 | pt l b r _ ih=>
  rcases Ab.mp m with rfl|m
  .exact(λd hd=>h d (by simp[TD.acts] at hd;simp[TD.acts,hd]),λu hu d hd=>h d (by simp[pts] at hu;subst hu;simp[TD.acts,hd]))
  .show ih (λd hd=>h d (by simp[TD.acts,hd])) m
def Vl{s t u:FF}(m:t∈sts s)(d:some u∈pts t):dp u<dp s:=by
 induction s with
 | nil=>cases m
 | act a r c=>rcases Ab.mp m with rfl|m;simp[pts] at d;show c m
 | fin a r c=>rcases Ab.mp m with rfl|m;simp[pts] at d;show c m
 | lv n r c=>rcases Ab.mp m with rfl|m;simp[pts] at d;show c m
 | ag n r c=>rcases Ab.mp m with rfl|m;simp[pts] at d;show c m
 | ch a y n r _ _ c=>
  rcases Ab.mp m with rfl|m
  .simp[pts] at d;rcases d with rfl|rfl<;>erw[dp]<;>lia
  .have:=c m;erw[dp];lia
 | rd l b r _ c=>
  rcases Ab.mp m with rfl|m
  .simp[pts] at d;subst d;erw[dp];lia
  .have:=c m;erw[dp];lia
 | pt l b r _ c=>
  rcases Ab.mp m with rfl|m
  .simp[pts] at d;subst d;erw[dp];lia
  .have:=c m;erw[dp];lia
def Z32{t:FF}{d:D}{w:Bool}{k:Nat}(i:Wj t=true)(h:RTs C M (ofF t) [d])(g:okF t)(q:B (isJF w k t)):eqD M d (jl w k).d B:=by
 have e:=pdF t h;have l:=layF t g;have f:PD M (jP w k) (jl w k).d:=by cases w<;>show pd_t (pd_c (pd_s _) (pd_c (pd_i _) pd_n))
 have j:Db (jP w k)=true:=by cases w<;>(ext jP;rw[Je];show Yj 'k' (Yj (Ew _) Qr))
 have z:Hb (jP w k)<=60:=by simp[jP,Hb,Go]
 let(_,A,_,_,_,o,_):=O7 t (i:=0) h rfl;have c:∀x:PyData,datF t=[x]->Ij x (jP w k)=isJF w k t->eqD M d (jl w k).d B:=by
  intro x s u;subst o;rw[s] at e l;ext e PDs;let(F,r,v,p,E):=e;let(rfl,_):=De v;rw[He,Bz9] at l;have:(jl w (k:Int)).d= .tup [.str (if w then "leave" else "again"),.int k]:=by cases w<;>rfl
  rw[this] at f |-;show .inl (x,jP w k,p,f,l.1,j,nh (Nat.min_le_right _ _) z,by rw[u];show q)
 cases t with
 | nil=>cases i
 | act a r=>have:=TD.isNil_eq i;subst this;show c _ rfl (ev_j 'k' 'k')
 | fin a r=>have:=TD.isNil_eq i;subst this;show c _ rfl (ev_j 'k' 'k')
 | lv n r=>have:=TD.isNil_eq i;subst this;show c _ rfl (by rw[show PyData.str "leave"= .str (if true then "leave" else "again") from rfl,ev_g];cases w<;>rfl)
 | ag n r=>have:=TD.isNil_eq i;subst this;show c _ rfl (by rw[show PyData.str "again"= .str (if false then "leave" else "again") from rfl,ev_g];cases w<;>rfl)
 | ch a y n r=>have:=TD.isNil_eq i;subst this;show c _ rfl (ev_j 'k' 'k')
 | rd m b r=>have:=TD.isNil_eq i;subst this;show c _ rfl (ev_j 'k' 'k')
 | pt m b r=>have:=TD.isNil_eq i;subst this;show c _ rfl (ev_j 'k' 'k')
def Xg(s:FF):(ofF s).length=(sts s).length:=by induction s<;>simp_all [ofF,sts]
def Vb(n:Nat):DSp:=λb M Q _=>∃(C:Nat->Prop) (s:FF) (r:Nat) (a:LD) (w:Bool) (k:Nat),b=[.ref r,(jl w k).d]/\Z2 M r=some a/\RTs C M (ofF s) a/\okF s/\dp s<n/\Q (.bl (isin w k s)) M
def Yg2{Γ G}:Rd K Γ G (Vb 0) Zb0 Zo8:=by rintro a M Q Z ⟨C,s,r,f,w,k,rfl,d,b,c,e,q⟩;lia
def Y94{Γ G}{n:Nat}(g:Γ[27]?=some (Vb n)):Rd K Γ G (Vb (n+1)) Zb0 Zo8:=by
 rintro H M Q Z ⟨C,s,r,T,w,k,rfl,R,J,V,hd,q⟩;delta Zb0 Zo8;rfl';show(T,Z0 R,?_);show Wg (λi b p=>∃y a,b=[↑r,some (jl w k).d,y,a]/\p=M/\((sts s).take i).any (hasS w k)=false) (none,none,rfl,rfl,by simp) ?_ ?_ ?_
 .rintro i b p _ ⟨y,a,rfl,rfl,_⟩;show Z0 R
 .rintro i d b p C' hi ⟨y,a,rfl,rfl,h⟩ hC;let(t,U,P,W,D,rfl,L):=O7 s J hi;have E:=Df P;let(k1,Y):=Rt V E;have f:hasS w k t=true->isin w k s=true:=λz=>by rw[Z25];show Hz.mpr (t,E,z)
  rw[tg_one];delta Bc;rfl';show Z32 W D k1 ?_;by_cases j:isJF w k t=true
  .rw[nc j];rw[f (by ext hasS;rw[j];rfl)] at q;show q
  rw[nb j];delta Z22;rfl';show Wg (λj b m=>∃a,b=[↑r,some (jl w k).d,some (.tup U),a]/\m=p/\((pts t).take j).any (inO w k)=false) (a,rfl,rfl,by simp) ?_ ?_ ?_
  .rintro i b m _ ⟨a,rfl,rfl,_⟩;trivial
  .rintro j x b m C2 hx ⟨a,rfl,rfl,v⟩ l;let(o,S,N):=L.at hx;have A:=Df S;have I:inO w k o=false->((pts t).take (j+1)).any (inO w k)=false:=λz=>by rw[Kt,S,Hw,v];simp[z]
   rw[tg_one];delta Z13;cases o with
   | none=>rcases N with⟨z,rfl⟩|⟨z,rfl⟩<;>(rfl';show l _ _ (_,rfl,rfl,I rfl))
   | some u=>
    let(c,F,rfl,kc,O,X):=N;have i1:∀{t:Ty} {B:Bool->Prop},isD K m (.ref c) (.ty (Yo t)) B=B (tyLst t):=fun{t B}=>Nl O;rfl';erw[i1];rfl';erw[g];show(C,u,c,F,w,k,rfl,O,X,Y u A,by have:=Vl E A;lia,?_);rfl';cases z:isin w k u with
    | true=>rw[nc rfl];rw[f (by ext hasS;rw[Hz.mpr (_,A,z)];simp)] at q;show q
    | false=>rw[nb Bf9];rfl';show l _ _ (_,rfl,rfl,I z)
  .rintro b m ⟨a,rfl,rfl,v⟩;rw[L.len,Ik] at v;show hC _ _ (_,_,rfl,rfl,?_);rw[Kt,P,Hw,h];simp[hasS,v,j]
 .rintro b p ⟨y,a,rfl,rfl,h⟩;delta Bq;rfl';have e:Lg T=(sts s).length:=J.len.trans (Xg s);rw[e,Ik,<-Z25] at h;rw[h] at q;show q
def Yh4{s t:FF}(h:(sts s).getLast?=some t):TD.on s=TD.on t/\∀w k,TD.tl w k s=TD.tl w k t:=by
 have d:∀{r:FF} {x y:FF},(x::sts r).getLast?=some y->TD.isNil r=false->(sts r).getLast?=some y:=fun{r x y} h n=>by
  cases r with
  | nil=>cases n
  | _=>erw[sts] at h |-;rw[Ix] at h;show h
 induction s with
 | nil=>cases h
 | act a r c=>
  cases n:TD.isNil r with
  | true=>have:=TD.isNil_eq n;subst this;cases h;show(rfl,λ_ _=>rfl)
  | false=>show c (d h n)
 | fin a r c=>
  cases n:TD.isNil r with
  | true=>have:=TD.isNil_eq n;subst this;cases h;show(rfl,λ_ _=>rfl)
  | false=>have:=c (d h n);show(by erw[TD.on,n];show this.1,this.2)
 | lv m r c=>
  cases n:TD.isNil r with
  | true=>have:=TD.isNil_eq n;subst this;cases h;show(rfl,λ_ _=>rfl)
  | false=>have:=c (d h n);show(by erw[TD.on,n];show this.1,λw k=>by erw[TD.tl,n,Bool.and_false,Bool.false_or];show this.2 w k)
 | ag m r c=>
  cases n:TD.isNil r with
  | true=>have:=TD.isNil_eq n;subst this;cases h;show(rfl,λ_ _=>rfl)
  | false=>have:=c (d h n);show(by erw[TD.on,n];show this.1,λw k=>by erw[TD.tl,n,Bool.and_false,Bool.false_or];show this.2 w k)
 | ch a y z r _ _ c=>
  cases n:TD.isNil r with
  | true=>have:=TD.isNil_eq n;subst this;cases h;show(rfl,λ_ _=>rfl)
  | false=>have:=c (d h n);show(by erw[TD.on,n,Bool.false_eq_true,if_false];show this.1,λw k=>by erw[TD.tl,n,Bool.false_eq_true,if_false];show this.2 w k)
 | rd k b r _ c=>
  cases n:TD.isNil r with
  | true=>have:=TD.isNil_eq n;subst this;cases h;show(rfl,λ_ _=>rfl)
  | false=>have:=c (d h n);show(by erw[TD.on,n,Bool.false_eq_true,if_false];show this.1,this.2)
 | pt k b r _ c=>
  cases n:TD.isNil r with
  | true=>have:=TD.isNil_eq n;subst this;cases h;show(rfl,λ_ _=>rfl)
  | false=>have:=c (d h n);show(by erw[TD.on,n,Bool.false_eq_true,if_false];show this.1,this.2)
def Zb3{s:FF}(a:RTs C M (ofF s) es):(s= .nil/\es=[])\/∃e d t,es=e++[d]/\t∈sts s/\Wj t=true/\RTs C M (ofF t) [d]/\TD.on s=TD.on t/\∀w k,TD.tl w k s=TD.tl w k t:=by
 rcases List.eq_nil_or_concat es with rfl|⟨e,d,rfl⟩
 .refine .inl ?_;have:=a.len;rw[Xg] at this;cases s<;>first | show(rfl,rfl) | (simp[sts] at this)
 .refine .inr ?_;let(t,g,b,c,f,_,_):=O7 s a (i:=Lg e) (d:=d) 's';have l:=a.len;rw[Xg] at l;have:(sts s).getLast?=some t:=by rw[List.getLast?_eq_getElem?,<-l];simpa using b
  show(e,d,t,by simp,Df b,c,f,Yh4 this)
def Jt(n:Nat):DSp:=λd M Q _=>∃(C:Nat->Prop) (s:FF) (r:Nat) (a:LD),d=[.ref r]/\Z2 M r=some a/\RTs C M (ofF s) a/\(∀c,C c->c<Lg M)/\okF s/\dp s<n/\n<=60/\∀b,Kp M b->Q (.bl (TD.on s)) b
def Yp4{Γ G}:Rd K Γ G (Jt 0) Yd0 Yb8:=by rintro a M Q Z ⟨C,s,r,h,rfl,e,c,g,d,f,b,q⟩;lia
def Yq6{Γ G}{n:Nat}(g:Γ[28]?=some (Jt n))(U:Γ[27]?=some (Vb 60)):Rd K Γ G (Jt (n+1)) Yd0 Yb8:=by
 rintro R M Q Z ⟨C,s,r,es,rfl,T,Y,v,ok,hd,z0,q⟩;have i:Kp M (M++[Cell.lst []]):=Kp.new _ _;delta Yd0 Yb8;rfl';show(nj _,Ti (Zc (Z0 T)) (Zh _ _ []) ?_);rcases Zb3 Y with⟨rfl,rfl⟩|⟨e,d,t,rfl,L,w,A,P,_⟩
 .rw[show([]:LD).isEmpty=true from rfl,nc rfl];show q _ i
 rw[show(e++[d]).isEmpty=false by cases e<;>rfl];rfl';delta Zp8;rfl';show Xe (Zc (Z0 T)) (Wn _ _) ?_;have l:=Rt ok L;rw[P] at q;have p:∀b,b=TD.on t->∀W,Kp M W->Q (.bl b) W:=λb hb=>by rw[hb];show q
 have X:=A.keep (M':=M++[Cell.lst []]) (λc h=>h) (λc f=>Y0 (v c f));cases t with
 | nil=>cases w
 | act a r=>have:=TD.isNil_eq w;subst this;let(x,F,j,(rfl,_),_):=A;cases j;erw[Ln.d];rfl';delta Tt;rfl';delta Tq;rfl';delta Pc;rfl';show p _ rfl _ i
 | fin a r=>have:=TD.isNil_eq w;subst this;let(x,F,j,(rfl,_),_):=A;cases j;erw[Ln.d];rfl';delta Tt;rfl';delta Tq;rfl';delta Pc;rfl';show p _ rfl _ i
 | lv k r=>have:=TD.isNil_eq w;subst this;let(x,F,j,(rfl,_),_):=A;cases j;erw[Ln.d];rfl';delta Tt;rfl';delta Tq;rfl';delta Pc;rfl';show p _ rfl _ i
 | ag k r=>have:=TD.isNil_eq w;subst this;let(x,F,j,(rfl,_),_):=A;cases j;erw[Ln.d];rfl';delta Tt;rfl';delta Tq;rfl';delta Pc;rfl';show p _ rfl _ i
 | ch a y N r=>
  have:=TD.isNil_eq w;subst this;let(x,F,j,(I,c2,H,d2,rfl,S,J,E,k4,k5,k6),_):=A;cases j;have V:=Vl L (u:=y) (by simp[pts]);have dn:=Vl L (u:=N) (by simp[pts]);rfl';erw[g];show(C,y,I,H,rfl,i.pW E,k4.keep (λc h=>h) (λc f=>i.at' c (λz=>z) (v c f)),λc f=>ng (v c f) i.len,l.2 y (by simp[pts]),'o','o',λM1 B=>?_);have o:=i.trans B;rfl';cases z:TD.on y with
  | true=>rw[nb 'd'];show p _ (by simp[TD.on,TD.isNil,z]) _ o
  | false=>rw[nc rfl];rfl';show(C,N,c2,d2,rfl,o.pW k5,k6.keep (λc h=>h) (λc f=>o.at' c (λz=>z) (v c f)),λc f=>ng (v c f) o.len,l.2 N (by simp[pts]),'o','o',λM2 O=>?_);show p _ (by simp[TD.on,TD.isNil,z]) _ (o.trans O)
 | rd m b r=>have:=TD.isNil_eq w;subst this;let(x,F,j,(I,H,rfl,S,J,E),_):=A;cases j;have V:=Vl L (u:=b) (by simp[pts]);erw[if_true];rfl';delta Tt;rfl';delta Tq;rfl';erw[U];show(Z1 'd',C,b,I,H,true,m,rfl,i.pW J,E.keep (λc h=>h) (λc f=>i.at' c (λz=>z) (v c f)),l.2 b (by simp[pts]),'o',?_);show p _ rfl _ i
 | pt m b r=>
  have:=TD.isNil_eq w;subst this;let(x,F,j,(I,H,rfl,S,J,E),_):=A;cases j;have V:=Vl L (u:=b) (by simp[pts]);erw[Bool.false_eq_true,if_false];rfl';delta Tt;rfl';erw[g];show(C,b,I,H,rfl,i.pW J,E.keep (λc h=>h) (λc f=>i.at' c (λz=>z) (v c f)),λc f=>ng (v c f) i.len,l.2 b (by simp[pts]),'o','o',λM1 B=>?_);have o:=i.trans B;rfl';cases z:TD.on b with
  | true=>rw[nc rfl];show p _ (by simp[TD.on,TD.isNil,z]) _ o
  | false=>rw[nb 'd'];delta Tq;rfl';erw[U];show(Z1 'd',C,b,I,H,true,m,rfl,o.pW J,E.keep (λc h=>h) (λc f=>o.at' c (λz=>z) (v c f)),l.2 b (by simp[pts]),'o',?_);show p _ (by change TD.hl m b=(TD.on b || TD.hl m b);rw[z];rfl) _ o
def Vf(n:Nat):DSp:=λe M Q _=>∃(C:Nat->Prop) (s:FF) (r:Nat) (a:LD) (w:Bool) (k:Nat),e=[.ref r,(jl w k).d]/\Z2 M r=some a/\RTs C M (ofF s) a/\(∀c,C c->c<Lg M)/\okF s/\dp s<n/\∀b,Kp M b->Q (.bl (TD.tl w k s)) b
def Ys9{w:Bool}{k:Nat}{t:FF}(i:Wj t=true)(h:isCh t=false):TD.tl w k t=isJF w k t:=by
 cases t with
 | nil=>cases i
 | ch a y n r=>cases h
 | act a r=>rw[TD.isNil_eq i];rfl
 | fin a r=>rw[TD.isNil_eq i];rfl
 | lv n r=>rw[TD.isNil_eq i];simp[TD.tl,isJF,TD.isNil]
 | ag n r=>rw[TD.isNil_eq i];simp[TD.tl,isJF,TD.isNil]
 | rd n b r=>rw[TD.isNil_eq i];rfl
 | pt n b r=>rw[TD.isNil_eq i];rfl
def wdF:FF->Str
 | .nil=>"" | .act _ _=>"sum" | .fin _ _=>"end" | .lv _ _=>"leave" | .ag _ _=>"again" | .ch _ _ _ _=>"choice" | .rd _ _ _=>"round" | .pt _ _ _=>"part"
def Yu6{t:FF}(h:isCh t=false):¬wdF t="choice":=by
 cases t with
 | ch a y n r=>cases h
 | _=>erw[wdF];decide+kernel
def Zt2{t:FF}{d:D}(i:Wj t=true)(h:RTs C M (ofF t) [d]):∃xs,d= .tup (.str (wdF t)::xs):=by
 cases t with
 | nil=>cases i
 | ch a y n r=>let(x,e,c,(g,k,f,j,rfl,_),_):=h;cases c;show(_,rfl)
 | act a r=>let(x,e,c,(rfl,_),_):=h;cases c;show(_,rfl)
 | fin a r=>let(x,e,c,(rfl,_),_):=h;cases c;show(_,rfl)
 | lv n r=>let(x,e,c,(rfl,_),_):=h;cases c;show(_,rfl)
 | ag n r=>let(x,e,c,(rfl,_),_):=h;cases c;show(_,rfl)
 | rd n b r=>let(x,e,c,(g,f,rfl,_),_):=h;cases c;show(_,rfl)
 | pt n b r=>let(x,e,c,(g,f,rfl,_),_):=h;cases c;show(_,rfl)
def Zt8{Γ G}:Rd K Γ G (Vf 0) Rp Re:=by rintro a M Q Z ⟨C,s,r,g,w,k,rfl,d,b,f,c,e,q⟩;lia
def Zr4{Γ G}{n:Nat}(g:Γ[29]?=some (Vf n)):Rd K Γ G (Vf (n+1)) Rp Re:=by
 rintro L M Q Z ⟨C,s,r,es,w,k,rfl,m,O,o,P,hd,q⟩;have i:Kp M (M++[Cell.lst []]):=Kp.new _ _;delta Rp Re;rfl';show(nj _,Ti (Zc (Z0 m)) (Zh _ _ []) ?_);rcases Zb3 O with⟨rfl,rfl⟩|⟨e,d,t,rfl,J,p,I,_,H⟩
 .rw[show([]:LD).isEmpty=true from rfl,nc rfl];show q _ i
 rw[show(e++[d]).isEmpty=false by cases e<;>rfl,nb 'd'];delta Q9;rfl';show Xe (Zc (Z0 m)) (Wn _ _) ?_;have j:=Rt P J;rw[H] at q;have A:∀b,b=TD.tl w k t->∀N,Kp M N->Q (.bl b) N:=λb W=>by rw[W];show q
 cases f:isCh t with
 | false=>have V:¬wdF t="choice":=Yu6 f;have v:=I.keep (M':=M++[Cell.lst []]) (λc h=>h) (λc f=>i.at' c (λz=>z) (o c f));let(xs,rfl):=Zt2 p I;rfl';rw[nb ↥V];delta Q0;rfl';show Xe (Zc (Z0 m)) (Wn _ _) ?_;show Z32 p v j.1 (A _ (Ys9 p f).symm _ i)
 | true=>
  cases t with
  | ch a y B r2=>
   have:=TD.isNil_eq p;subst this;let(x,e2,X,(c1,c2,d1,Y,rfl,k1,k2,U,T,S,R),_):=I;cases X;have dy:=Vl J (u:=y) (by simp[pts]);have dn:=Vl J (u:=B) (by simp[pts]);rfl';show Xe (Zc (Z0 m)) (Wn _ _) ?_;rfl';erw[g];show(C,y,c1,d1,w,k,rfl,i.pW U,T.keep (λc h=>h) (λc f=>i.at' c (λz=>z) (o c f)),λc f=>ng (o c f) i.len,j.2 y (by simp[pts]),'o',λM1 F=>?_);have l:=i.trans F;rfl';cases z:TD.tl w k y with
   | true=>rw[nb 'd'];show A _ (by simp[TD.tl,TD.isNil,z]) _ l
   | false=>rw[nc rfl];rfl';show Xe (Z0 (l.pW m)) (Wn _ _) ?_;rfl';show(C,B,c2,Y,w,k,rfl,l.pW S,R.keep (λc h=>h) (λc f=>l.at' c (λz=>z) (o c f)),λc f=>ng (o c f) l.len,j.2 B (by simp[pts]),'o',λM2 E=>?_);show A _ (by simp[TD.tl,TD.isNil,z]) _ (l.trans E)
  | _=>cases f
def tdS:FF->Bool
 | .pt k b _=> !TD.rd1 b&&(TD.hl k b&&!TD.tl true k b)
 | .rd k b _=>(TD.on b || TD.ha k b)&&!TD.tl false k b
 | _=>true
def Ea:DSp:=λb M Q _=>∃(C:Nat->Prop) (t:FF) (d:D),b=[d]/\Wj t=true/\RTs C M (ofF t) [d]/\(∀c,C c->c<Lg M)/\okF t/\dp t<60/\∀a,Kp M a->Q (.bl (tdS t)) a
def Yi6{s:FF}(h:(sts s).length≠1):TD.rd1 s=false:=by
 cases s with
 | rd k b r=>cases n:TD.isNil r with
  | true=>rw[TD.isNil_eq n] at h;show absurd rfl h
  | false=>show n
 | _=>rfl
def Y24{s t:FF}(h:sts s=[t]):TD.rd1 s=(wdF t=="round"):=by
 have c:∀{r x:FF},x::sts r=[t]->r= .nil/\x=t:=fun{r x} h=>by let(e,d):=De h;cases r<;>first | show(rfl,e) | (simp[sts] at d)
 cases s with
 | nil=>cases h
 | rd k b r=>let(rfl,rfl):=c h;change true=_;erw[wdF];decide+kernel
 | act a r=>let(rfl,rfl):=c h;change false=_;erw[wdF];decide+kernel
 | fin a r=>let(rfl,rfl):=c h;change false=_;erw[wdF];decide+kernel
 | lv n r=>let(rfl,rfl):=c h;change false=_;erw[wdF];decide+kernel
 | ag n r=>let(rfl,rfl):=c h;change false=_;erw[wdF];decide+kernel
 | ch a y n r=>let(rfl,rfl):=c h;change false=_;erw[wdF];decide+kernel
 | pt k b r=>let(rfl,rfl):=c h;change false=_;erw[wdF];decide+kernel
def Yo8{Γ G}(gh:Γ[27]?=some (Vb 60))(go:Γ[28]?=some (Jt 60))(X:Γ[29]?=some (Vf 60)):Rd K Γ G Ea Wv Ww:=by
 rintro ds M Q Z ⟨C,t,d,rfl,J,U,I,ok,hd,q⟩;delta Wv Ww;have S:Kp M M:=Ks.refl M;have f:∀w,d= .tup (.str (wdF t)::w)->¬wdF t="part"->¬wdF t="round"->tdS t=true->tss (K,Γ,G) noX Wv {nx:=λ_ M=>Q .non M,rt:=Q} (start0 Ww [d]) M:=λw e W N V=>by subst e;delta Wv Ww;rfl';rw[nb ↥W];delta Xr;rfl';rw[nb ↥N];delta Sl;rfl';rw[V] at q;show q _ S
 let(w,e):=Zt2 J U;cases t with
 | nil=>cases J
 | act a r=>show f w e (by erw[wdF];decide+kernel) (by erw[wdF];decide+kernel) rfl
 | fin a r=>show f w e (by erw[wdF];decide+kernel) (by erw[wdF];decide+kernel) rfl
 | lv n r=>show f w e (by erw[wdF];decide+kernel) (by erw[wdF];decide+kernel) rfl
 | ag n r=>show f w e (by erw[wdF];decide+kernel) (by erw[wdF];decide+kernel) rfl
 | ch a y n r=>show f w e (by erw[wdF];decide+kernel) (by erw[wdF];decide+kernel) rfl
 | rd k b r=>
  have:=TD.isNil_eq J;subst this;let(x,e2,Y,(B,m,rfl,k1,p,o),_):=U;cases Y;have dy:=Vl (s:= .rd k b .nil) (t:= .rd k b .nil) (u:=b) (by simp[sts]) (by simp[pts]);have j:=(Rt (s:= .rd k b .nil) (t:= .rd k b .nil) ok (by simp[sts])).2 b (by simp[pts]);erw[if_true];rfl';delta Xr;rfl';erw[go,gh];have D:∀v,v=tdS (.rd k b .nil)->∀F,Kp M F->Q (.bl v) F:=λv T=>by rw[T];show q
  show(Z1 'd',C,b,B,m,rfl,p,o,I,j,'o',na _,λM1 g=>?_);have R:=λc H=>g.at' c (λz=>z) (I c H);rfl';cases z:TD.on b with
  | true=>rw[nb 'd'];delta Wr;rfl';erw[X];show(C,b,B,m,false,k,rfl,g.pW p,o.keep (λc h=>h) R,λc H=>ng (I c H) g.len,j,'o',λM3 l=>?_);rfl';show D _ (by change _=((TD.on b || TD.ha k b)&&!TD.tl false k b);rw[z];rfl) _ (g.trans l)
  | false=>
   rw[nc rfl];show(C,b,B,m,false,k,rfl,g.pW p,o.keep (λc h=>h) R,j,'o',?_);rfl';cases y:isin false k b with
   | false=>rw[nc rfl];show D _ (by change _=((TD.on b || TD.ha k b)&&!TD.tl false k b);rw[z,show TD.ha k b=false from y];rfl) _ g
   | true=>rw[nb 'd'];delta Wr;rfl';erw[X];show(C,b,B,m,false,k,rfl,g.pW p,o.keep (λc h=>h) R,λc H=>ng (I c H) g.len,j,'o',λM3 l=>?_);rfl';show D _ (by change _=((TD.on b || TD.ha k b)&&!TD.tl false k b);rw[z,show TD.ha k b=true from y];rfl) _ (g.trans l)
 | pt k b r=>
  have:=TD.isNil_eq J;subst this;let(x,e2,Y,(B,m,rfl,k1,p,o),_):=U;cases Y;have dy:=Vl (s:= .pt k b .nil) (t:= .pt k b .nil) (u:=b) (by simp[sts]) (by simp[pts]);have j:=(Rt (s:= .pt k b .nil) (t:= .pt k b .nil) ok (by simp[sts])).2 b (by simp[pts]);erw[Bool.false_eq_true,if_false];rfl';have D:∀v,v=tdS (.pt k b .nil)->∀F,Kp M F->Q (.bl v) F:=λv T=>by rw[T];show q
  have P:tdS (.pt k b .nil)=(!TD.rd1 b&&(TD.hl k b&&!TD.tl true k b)):=rfl;have A:TD.rd1 b=false->tss (K,Γ,G) noX V1 {nx:=λO F=>tss (K,Γ,G) noX Xr {nx:=λ_ M=>Q .non M,rt:=Q} O F,rt:=Q} [some (.tup [.str "part",.int k,.ref B]),some (.tup [.str "leave",.int k]),none] M:=λh0=>by
   delta V1;rfl';erw[gh,X];show(C,b,B,m,true,k,rfl,p,o,j,'o',?_);rfl';cases y:isin true k b with
   | false=>rw[nb 'd'];show D _ (by rw[P,h0,show TD.hl k b=false from y];rfl) _ S
   | true=>rw[nc rfl];show(C,b,B,m,true,k,rfl,p,o,I,j,'o',λM3 l=>?_);rfl';show D _ (by rw[P,h0,show TD.hl k b=true from y];rfl) _ l
  show(Z1 'd',Zv (Z0 p) ?_);rfl';have e1:=o.len;rw[Xg] at e1;by_cases W:Lg m=1
  .have E:(Lg m:Int)=1:='o';erw[E,if_true];let(x,rfl):=Ke.mp W;let(t1,z0,N,o2,V,_,_):=O7 b o (i:=0) rfl;have hs:sts b=[t1]:=by let(u,hu):=Ke.mp e1.symm;rw[hu] at N |-;cases N;rfl
   let(ys,rfl):=Zt2 o2 V;show Xe (Z0 p) rfl ?_;rfl';by_cases L:wdF t1="round"
   .rw[nc ↥L];show D _ (by rw[P,Y24 hs,L];simp) _ S
   .rw[nb ↥L];show A (by rw[Y24 hs];simpa using L)
  .have E:¬(Lg m:Int)=1:='o';erw[E,if_false];show A (Yi6 'o')
def tk:Nat->FF->FF
 | 0,_=> .nil
 | _+1,.nil=> .nil
 | i+1,.act d r=> .act d (tk i r)
 | i+1,.fin d r=> .fin d (tk i r)
 | i+1,.lv n r=> .lv n (tk i r)
 | i+1,.ag n r=> .ag n (tk i r)
 | i+1,.ch d y n r=> .ch d y n (tk i r)
 | i+1,.rd k b r=> .rd k b (tk i r)
 | i+1,.pt k b r=> .pt k b (tk i r)
def Ati(s:FF)(i:Nat)(t:FF):Prop:=(0<i->TD.on (tk i s)=true)/\tdS t=true/\∀u,some u∈pts t->TD.Tdy u
def Zm8{s t:FF}(h:(sts s)[j]?=some t)(a:0<j):TD.isNil (tk j s)=false:=by
 cases j with
 | zero=>lia
 | succ j=>cases s<;>first | rfl | (simp[sts] at h)
def has0(n:TD.isNil r=false):∃t,(sts r)[0]?=some t:=by
 cases r with
 | nil=>cases n
 | _=>show(_,rfl)
def Zk6(s:FF):TD.Tdy s↔∀i t,(sts s)[i]?=some t->Ati s i t:=by
 have j:∀(x r:FF) (s:FF),sts s=x::sts r->((∀i t,(sts s)[i]?=some t->Ati s i t)↔Ati s 0 x/\∀i t,(sts r)[i]?=some t->Ati s (i+1) t):=λx r s e=>by
  rw[e];show(λh=>(h 0 x rfl,λi t c=>h (i+1) t c),λh i t c=>by
   cases i with
   | zero=>cases c;show h.1
   | succ i=>show h.2 i t c)
 have o:∀(x r:FF) (s:FF),sts s=x::sts r->TD.on (tk 1 s)=false->Ati s 0 x->(TD.isNil r=true↔∀i t,(sts s)[i]?=some t->Ati s i t):=λx r s e D g=>by
  rw[j x r s e];show(λh=>(g,λi t c=>by rw[TD.isNil_eq h] at c;cases c),λh=>?_);cases n:TD.isNil r with
  | true=>rfl
  | false=>let(t,c):=has0 n;have:=(h.2 0 t c).1 'o';rw[D] at this;cases this
 induction s with
 | nil=>show(λ_ i t h=>(by simp[sts] at h),λ_=>trivial)
 | act a r l=>
  rw[j (.act a .nil) r _ rfl];change TD.Tdy r↔_;rw[Iff.intro l.1 l.2];show(λh=>((λz=>by lia,rfl,λu f=>by simp[pts] at f),λi t c=>(λ_=>?_,(h i t c).2)),λh i t c=>(λz=>(h.2 i t c).1 'o',(h.2 i t c).2));cases i with
  | zero=>rfl
  | succ i=>show(h _ t c).1 'o'
 | fin a r _=>show o (.fin a .nil) r _ rfl rfl (λz=>by lia,rfl,λu f=>by simp[pts] at f)
 | lv n r _=>show o (.lv n .nil) r _ rfl rfl (λz=>by lia,rfl,λu f=>by simp[pts] at f)
 | ag n r _=>show o (.ag n .nil) r _ rfl rfl (λz=>by lia,rfl,λu f=>by simp[pts] at f)
 | ch a y n r _ _ l=>
  rw[j (.ch a y n .nil) r _ rfl];change TD.Tdy y/\TD.Tdy n/\TD.Tdy r/\(TD.isNil r=true\/(TD.on y || TD.on n)=true)↔_;rw[Iff.intro l.1 l.2];have d:∀{i t},(sts r)[i]?=some t->TD.on (tk (i+1) (.ch a y n r))=if i=0 then TD.on y || TD.on n else TD.on (tk i r):=fun{i t} c=>by
   cases i with
   | zero=>rfl
   | succ i=>erw[tk,TD.on,Zm8 c 'o'];rfl
  show(λ(g,m,v,A)=>((λz=>by lia,rfl,λu f=>by simp[pts] at f;rcases f with rfl|rfl<;>assumption),λi t c=>(λ_=>?_,(v i t c).2)),λ(g,m)=>(g.2.2 y (by simp[pts]),g.2.2 n (by simp[pts]),λi t c=>(λz=>?_,(m i t c).2),?_))
  .rw[d c];split
   .show A.resolve_left λz=>by rw[TD.isNil_eq z] at c;cases c
   .exact(v i t c).1 'o'
  .have:=(m i t c).1 'o';rwa[d c,nb 'o'] at this
  .cases q:TD.isNil r with
   | true=>show .inl rfl
   | false=>let(t,c):=has0 q;have:=(m 0 t c).1 'o';show .inr this
 | rd k b r _ l=>
  rw[j (.rd k b .nil) r _ rfl];change TD.Tdy b/\TD.Tdy r/\(TD.on b || TD.ha k b)=true/\TD.tl false k b=false/\(TD.isNil r=true\/TD.hl k b=true)↔_;rw[Iff.intro l.1 l.2];have d:∀{i t},(sts r)[i]?=some t->TD.on (tk (i+1) (.rd k b r))=if i=0 then TD.hl k b else TD.on (tk i r):=fun{i t} c=>by
   cases i with
   | zero=>rfl
   | succ i=>erw[tk,TD.on,Zm8 c 'o'];rfl
  have w:tdS (.rd k b .nil)=((TD.on b || TD.ha k b)&&!TD.tl false k b):=rfl;show(λ(g,v,B,C,A)=>((λz=>by lia,by rw[w,B,C];rfl,λu f=>by simp[pts] at f;subst f;show g),λi t c=>(λ_=>?_,(v i t c).2)),λ(g,m)=>?_)
  .rw[d c];split
   .show A.resolve_left λz=>by rw[TD.isNil_eq z] at c;cases c
   .exact(v i t c).1 'o'
  .have p:=g.2.1;rw[w,Bz9,Bool.not_eq_true'] at p;show(g.2.2 b (by simp[pts]),λi t c=>(λz=>?_,(m i t c).2),p.1,p.2,?_)
   .have:=(m i t c).1 'o';rwa[d c,nb 'o'] at this
   .cases q:TD.isNil r with
    | true=>show .inl rfl
    | false=>let(t,c):=has0 q;show .inr ((m 0 t c).1 'o')
 | pt k b r _ l=>
  rw[j (.pt k b .nil) r _ rfl];change TD.Tdy b/\TD.Tdy r/\TD.hl k b=true/\TD.tl true k b=false/\TD.rd1 b=false↔_;rw[Iff.intro l.1 l.2];have d:∀{i t},(sts r)[i]?=some t->TD.on (tk (i+1) (.pt k b r))=if i=0 then TD.on b || TD.hl k b else TD.on (tk i r):=fun{i t} c=>by
   cases i with
   | zero=>rfl
   | succ i=>erw[tk,TD.on,Zm8 c 'o'];rfl
  have w:tdS (.pt k b .nil)=(!TD.rd1 b&&(TD.hl k b&&!TD.tl true k b)):=rfl;show(λ(g,v,B,C,A)=>((λz=>by lia,by rw[w,A,B,C];rfl,λu f=>by simp[pts] at f;subst f;show g),λi t c=>(λ_=>?_,(v i t c).2)),λ(g,m)=>?_)
  .rw[d c];split
   .rw[B];simp
   .exact(v i t c).1 'o'
  .have p:=g.2.1;rw[w,Bz9,Bz9,Bool.not_eq_true',Bool.not_eq_true'] at p;show(g.2.2 b (by simp[pts]),λi t c=>(λz=>?_,(m i t c).2),p.2.1,p.2.2,p.1);have:=(m i t c).1 'o';rwa[d c,nb 'o'] at this
def Yu:DSp:=λa M Q _=>∃i:Int,a=[.int i]/\Q (.bl true) M
def W9:DSp:=λb M Q _=>∃a:LD,b=[.tup a]/\(∀x∈a,(∃z,x= .str z)\/∃i,x= .int i)/\Q (.bl true) M
def Zx2{Γ G}:Rd K Γ G Yu Z34 Bz:=by rintro a M Q Z ⟨i,rfl,q⟩;delta Z34 Bz;rfl';show q
def Ct{Γ G}(g:Γ[32]?=some Yu):Rd K Γ G W9 O9 Pb:=by
 rintro e M Q Z ⟨j,rfl,h,q⟩;delta O9 Pb;rfl';show Wg (λi a c=>∃b,a=[some (.tup j),b]/\c=M) (none,rfl,rfl) ?_ ?_ ?_
 .rintro i a c _ ⟨b,rfl,rfl⟩;trivial
 .rintro i d a c C k ⟨b,rfl,rfl⟩ f;rw[tg_one];delta Sy;rcases h d (Df k) with⟨z,rfl⟩|⟨z,rfl⟩
  .rfl';show f _ _ (_,rfl,rfl)
  .rfl';erw[g];show(_,rfl,?_);rfl';show f _ _ (_,rfl,rfl)
 .rintro a c ⟨b,rfl,rfl⟩;delta So;rfl';show q
def own1:FF->LQ
 | .rd k _ _=>[k]
 | .pt k _ _=>[k]
 | _=>[]
def numO:Option FF->LQ
 | some u=>TD.nums u
 | none=>[]
def Yb5(s:FF):∀{t:FF} {i:Nat},(sts s)[i]?=some t->TD.nums (tk (i+1) s)=TD.nums (tk i s)++(own1 t++(pts t).flatMap numO):=by
 induction s with
 | nil=>intro t i h;simp[sts] at h
 | act a r c=>
  intro t i h;cases i with
  | zero=>cases h;rfl
  | succ i=>show c h
 | fin a r c=>
  intro t i h;cases i with
  | zero=>cases h;rfl
  | succ i=>show c h
 | lv n r c=>
  intro t i h;cases i with
  | zero=>cases h;rfl
  | succ i=>show c h
 | ag n r c=>
  intro t i h;cases i with
  | zero=>cases h;rfl
  | succ i=>show c h
 | ch a y n r _ _ c=>
  intro t i h;cases i with
  | zero=>cases h;simp[tk,TD.nums,own1,pts,numO]
  | succ i=>have:=c h;erw[tk,TD.nums] at this |-;rw[this];simp
 | rd k b r _ c=>
  intro t i h;cases i with
  | zero=>cases h;simp[tk,TD.nums,own1,pts,numO]
  | succ i=>have:=c h;erw[tk,TD.nums] at this |-;rw[this];simp
 | pt k b r _ c=>
  intro t i h;cases i with
  | zero=>cases h;simp[tk,TD.nums,own1,pts,numO]
  | succ i=>have:=c h;erw[tk,TD.nums] at this |-;rw[this];simp
def Yq5(s:FF):tk (sts s).length s=s:=by
 induction s with
 | nil=>rfl
 | act a r c=>erw[sts,Af,tk,c]
 | fin a r c=>erw[sts,Af,tk,c]
 | lv n r c=>erw[sts,Af,tk,c]
 | ag n r c=>erw[sts,Af,tk,c]
 | ch a y n r _ _ c=>erw[sts,Af,tk,c]
 | rd k b r _ c=>erw[sts,Af,tk,c]
 | pt k b r _ c=>erw[sts,Af,tk,c]
def Yv1(s:FF):∀i,dp (tk i s)<=dp s:=by
 induction s with
 | nil=>intro i;cases i<;>show na _
 | act a r c=>intro i;cases i with
  | zero=>show nj _
  | succ i=>show c i
 | fin a r c=>intro i;cases i with
  | zero=>show nj _
  | succ i=>show c i
 | lv n r c=>intro i;cases i with
  | zero=>show nj _
  | succ i=>show c i
 | ag n r c=>intro i;cases i with
  | zero=>show nj _
  | succ i=>show c i
 | ch a y n r _ _ c=>intro i;cases i with
  | zero=>show nj _
  | succ i=>have:=c i;erw[tk,dp];lia
 | rd k b r _ c=>intro i;cases i with
  | zero=>show nj _
  | succ i=>have:=c i;erw[tk,dp];lia
 | pt k b r _ c=>intro i;cases i with
  | zero=>show nj _
  | succ i=>have:=c i;erw[tk,dp];lia
def Yc5(s:FF):∀i,∀d∈TD.acts (tk i s),d∈TD.acts s:=by
 induction s with
 | nil=>intro i;cases i<;>show λd h=>h
 | act a r c=>intro i d h;cases i with
  | zero=>cases h
  | succ i=>erw[tk,TD.acts,Ab] at h |-;show h.imp id (c i d)
 | fin a r c=>intro i d h;cases i with
  | zero=>cases h
  | succ i=>erw[tk,TD.acts,Ab] at h |-;show h.imp id (c i d)
 | lv n r c=>intro i d h;cases i with
  | zero=>cases h
  | succ i=>show c i d h
 | ag n r c=>intro i d h;cases i with
  | zero=>cases h
  | succ i=>show c i d h
 | ch a y n r _ _ c=>intro i d h;cases i with
  | zero=>cases h
  | succ i=>erw[tk,TD.acts,Ab,Am] at h |-;show h.imp id (Or.imp id (c i d))
 | rd k b r _ c=>intro i d h;cases i with
  | zero=>cases h
  | succ i=>erw[tk,TD.acts,Am] at h |-;show h.imp id (c i d)
 | pt k b r _ c=>intro i d h;cases i with
  | zero=>cases h
  | succ i=>erw[tk,TD.acts,Am] at h |-;show h.imp id (c i d)
def Yn4{s:FF}(h:okF s)(i:Nat):okF (tk i s):=λd a=>h d (Yc5 s i d a)
def Yk3(s:FF):∀{es:LD} (i:Nat),RTs C M (ofF s) es->RTs C M (ofF (tk i s)) (es.take i):=by
 induction s with
 | nil=>intro es i h;rw[show es=[] from h];cases i<;>simp[tk,ofF]<;>rfl
 | act a r c=>intro es i h;cases i with
  | zero=>show rfl
  | succ i=>let(x,e,rfl,d,h):=h;show(x,_,rfl,d,c i h)
 | fin a r c=>intro es i h;cases i with
  | zero=>show rfl
  | succ i=>let(x,e,rfl,d,h):=h;show(x,_,rfl,d,c i h)
 | lv n r c=>intro es i h;cases i with
  | zero=>show rfl
  | succ i=>let(x,e,rfl,d,h):=h;show(x,_,rfl,d,c i h)
 | ag n r c=>intro es i h;cases i with
  | zero=>show rfl
  | succ i=>let(x,e,rfl,d,h):=h;show(x,_,rfl,d,c i h)
 | ch a y n r _ _ c=>intro es i h;cases i with
  | zero=>show rfl
  | succ i=>let(x,e,rfl,d,h):=h;show(x,_,rfl,d,c i h)
 | rd k b r _ c=>intro es i h;cases i with
  | zero=>show rfl
  | succ i=>let(x,e,rfl,d,h):=h;show(x,_,rfl,d,c i h)
 | pt k b r _ c=>intro es i h;cases i with
  | zero=>show rfl
  | succ i=>let(x,e,rfl,d,h):=h;show(x,_,rfl,d,c i h)
def Zm5{s t:FF}(h:t∈sts s):dp t<=dp s:=by
 induction s with
 | nil=>cases h
 | act a r c=>rcases Ab.mp h with rfl|h;show nj _;show c h
 | fin a r c=>rcases Ab.mp h with rfl|h;show nj _;show c h
 | lv n r c=>rcases Ab.mp h with rfl|h;show nj _;show c h
 | ag n r c=>rcases Ab.mp h with rfl|h;show nj _;show c h
 | ch a y n r _ _ c=>
  rcases Ab.mp h with rfl|h
  .simp only[dp];lia
  .have:=c h;erw[dp];lia
 | rd k b r _ c=>
  rcases Ab.mp h with rfl|h
  .simp only[dp];lia
  .have:=c h;erw[dp];lia
 | pt k b r _ c=>
  rcases Ab.mp h with rfl|h
  .simp only[dp];lia
  .have:=c h;erw[dp];lia
def nD(l:LQ):LD:=l.map fun(n:Nat)=> .int (n:Int)
def mny:FF->Nat
 | .nil=>0
 | .act _ r=>mny r+1
 | .fin _ r=>mny r+1
 | .lv _ r=>mny r+1
 | .ag _ r=>mny r+1
 | .ch _ y n r=>mny y+mny n+mny r+1
 | .rd _ b r=>mny b+mny r+1
 | .pt _ b r=>mny b+mny r+1
def Vm(s:FF):(sts s).length<=mny s:=by induction s<;>erw[sts,mny,Af,Dy]<;>lia
def Zj0{s t u:FF}(h:t∈sts s)(d:some u∈pts t):mny u<=mny s:=by
 induction s with
 | nil=>cases h
 | act a r c=>rcases Ab.mp h with rfl|h;simp[pts] at d;have:=c h;erw[mny];lia
 | fin a r c=>rcases Ab.mp h with rfl|h;simp[pts] at d;have:=c h;erw[mny];lia
 | lv n r c=>rcases Ab.mp h with rfl|h;simp[pts] at d;have:=c h;erw[mny];lia
 | ag n r c=>rcases Ab.mp h with rfl|h;simp[pts] at d;have:=c h;erw[mny];lia
 | ch a y n r _ _ c=>
  rcases Ab.mp h with rfl|h
  .simp[pts] at d;rcases d with rfl|rfl<;>erw[mny]<;>lia
  .have:=c h;erw[mny];lia
 | rd k b r _ c=>
  rcases Ab.mp h with rfl|h
  .simp[pts] at d;subst d;erw[mny];lia
  .have:=c h;erw[mny];lia
 | pt k b r _ c=>
  rcases Ab.mp h with rfl|h
  .simp[pts] at d;subst d;erw[mny];lia
  .have:=c h;erw[mny];lia
def Nk(s:FF):∀i,(TD.nums (tk i s)).length<=(TD.nums s).length:=by
 induction s with
 | nil=>intro i;cases i<;>show na _
 | act a r c=>intro i;cases i with
  | zero=>show nj _
  | succ i=>show c i
 | fin a r c=>intro i;cases i with
  | zero=>show nj _
  | succ i=>show c i
 | lv n r c=>intro i;cases i with
  | zero=>show nj _
  | succ i=>show c i
 | ag n r c=>intro i;cases i with
  | zero=>show nj _
  | succ i=>show c i
 | ch a y n r _ _ c=>intro i;cases i with
  | zero=>show nj _
  | succ i=>have:=c i;erw[tk,TD.nums,Ac];lia
 | rd k b r _ c=>intro i;cases i with
  | zero=>show nj _
  | succ i=>have:=c i;erw[tk,TD.nums,Ac,Af];lia
 | pt k b r _ c=>intro i;cases i with
  | zero=>show nj _
  | succ i=>have:=c i;erw[tk,TD.nums,Ac,Af];lia
def isHm:FF->Bool
 | .rd _ _ _=>true
 | .pt _ _ _=>true
 | _=>false
def Yy5{t:FF}(h:isHm t=false):¬wdF t="part"/\¬wdF t="round"/\own1 t=[]:=by
 cases t with
 | rd k b r=>cases h
 | pt k b r=>cases h
 | _=>show(by erw[wdF];decide+kernel,by erw[wdF];decide+kernel,rfl)
def Vo(n:Nat):DSp:=λe M Q _=>∃(C:Nat->Prop) (s:FF) (r:Nat) (d:LD) (mk:Nat) (b:LD),e=[.ref r,.ref mk]/\Z2 M r=some d/\RTs C M (ofF s) d/\(∀c,C c->c<Lg M)/\¬C mk/\mk≠r/\Z2 M mk=some b/\(Lg b)+(TD.nums s).length<=400/\mny s<=1000/\okF s/\dp s<n/\n<=60/\
 (TD.Tdy s->∀a,Ks (·=mk) M a->Z2 a mk=some (b++nD (TD.nums s))->Q (.bl true) a)/\(¬TD.Tdy s->∀a,Ks (·=mk) M a->Q (.bl false) a)
def Zu8{Γ G}:Rd K Γ G (Vo 0) Cc Cp:=by rintro a M Q Z ⟨C,s,r,m,mk,f,rfl,h,d,l,i,c,b,j,g,e,k,_⟩;lia
def Zs8{Γ G}{n:Nat}(g:Γ[31]?=some (Vo n))(go:Γ[28]?=some (Jt 60))(g1:Γ[30]?=some Ea):Rd K Γ G (Vo (n+1)) Cc Cp:=by
 rintro ds M Q Z ⟨C,s,r,O,mk,ms,rfl,hr,rt,T,hm,w0,z1,hl,hy,ok,hd,r1,qy,qn⟩;delta Cc Cp;rfl';show Zv (Z0 hr) ?_;rfl';have e:Lg O=(sts s).length:=rt.len.trans (Xg s);have s1:=Vm s;show('o','o',?_);rw[Kl];show Wg (λi N p=>∃d2 m,N=[↑r,↑mk,d2,m]/\Ks (·=mk) M p/\Z2 p mk=some (ms++nD (TD.nums (tk i s)))/\∀j t,j<i->(sts s)[j]?=some t->Ati s j t) (none,none,rfl,Ks.refl M,by simpa[tk,TD.nums,nD] using z1,λj t hj=>by lia) ?_ ?_ ?_
 .rintro i N p _ ⟨d2,m,rfl,_⟩;trivial
 .rintro i d N p C' hi ⟨d2,m,rfl,L,hk,ha⟩ w1;have s0:i<Lg O:=by have:=(Ai.mp hi).1;rwa[Yv] at this
  rw[Fy s0] at hi;cases hi;obtain⟨d,f⟩:∃d,O[i]?=some d:=(_,Ah s0);let(t,xs,ht,o1,E,rfl,pr):=O7 s rt f;have q:=Df ht;have x0:=L.W w0.symm hr;have kC:∀c,C c->p[c]?=M[c]?:=λc a=>L.at' c (λz=>hm (z ▸ a)) (T c a);have P:¬Ati s i t->¬TD.Tdy s:=λz y=>z ((Zk6 s).mp y i t ht);rw[tg_one];delta Fe;rfl';erw[Int.zero_add];have V:∀J,Ks (·=mk) M J->Z2 J mk=some (ms++nD (TD.nums (tk i s)))->(0<i->TD.on (tk i s)=true)->tdS t=true->tss (K,Γ,G) noX Pg {nx:=C',rt:=Q,bk:=λw p=>tss (K,Γ,G) noX V9 {nx:=λ_ M=>Q .non M,rt:=Q} w p,ct:=C'} [↑r,↑mk,some (.int i),m] J:=λJ k1 I h1 h2=>by
   have X:∀M2,Ks (·=mk) M M2->Z2 M2 mk=some (ms++nD (TD.nums (tk i s)++own1 t))->tss (K,Γ,G) noX Sg {nx:=C',rt:=Q,bk:=λw p=>tss (K,Γ,G) noX V9 {nx:=λ_ M=>Q .non M,rt:=Q} w p,ct:=C'} [↑r,↑mk,some (.int i),m] M2:=λM2 k2 y1=>by
    delta Sg;rfl';show ix_l (Z0 (k2.W w0.symm hr)) f ?_;have u0:=Yb5 s ht;have q0:=Nk s (i+1);rw[u0] at q0;erw[Ac] at q0;show Wg (own:= .no) (xs:=xs) (λj N Y=>∃m,N=[↑r,↑mk,some (.int i),m]/\Ks (·=mk) M Y/\Z2 Y mk=some (ms++nD (TD.nums (tk i s)++own1 t++((pts t).take j).flatMap numO))/\∀u,some u∈(pts t).take j->TD.Tdy u) (m,rfl,k2,↥y1,λu hu=>by simp at hu) ?_ ?_ ?_
    .rintro j N Y _ ⟨m,rfl,_⟩;trivial
    .rintro j x N Y C2 hx ⟨m,rfl,R,H,hT⟩ r0;let(o,S,po):=pr.at hx;have om:=Df S;rw[tg_one];delta Fk;cases o with
     | none=>have nx:∀m,C2 [↑r,↑mk,some (.int i),m] Y:=λm=>r0 _ _ (_,rfl,R,by rw[H,Kt,S];simp[numO],λu hu=>by rw[Kt,S] at hu;simp at hu;show hT u hu);rcases po with⟨z,rfl⟩|⟨z,rfl⟩<;>(rfl';show nx _)
     | some u=>
      let(c,v1,rfl,kc,k4,k5):=po;have n0:∀c,C c->Y[c]?=M[c]?:=λc a=>R.at' c (λz=>hm (z ▸ a)) (T c a);have cm:mk≠c:=λz=>hm (z ▸ kc);have t0:=R.W cm.symm k4;have i1:∀{t:Ty} {B:Bool->Prop},isD K Y (.ref c) (.ty (Yo t)) B=B (tyLst t):=fun{t B}=>Nl t0;have sp:(((pts t).take j).flatMap numO).length+(TD.nums u).length<=((pts t).flatMap numO).length:=by
       have e1:pts t=(pts t).take j++some u::(pts t).drop (j+1):=by let(h,e):=Ai.mp S;rw[<-e,<-Hv h];show(List.take_append_drop j _).symm
       rw[congrArg (λl=>(List.flatMap numO l).length) e1];simp[numO]
      rfl';erw[i1];rfl';erw[g];show(C,u,c,v1,mk,_,rfl,t0,k5.keep (λc h=>h) n0,λc a=>ng (T c a) R.len,hm,cm,H,?_,by have:=Zj0 q om;lia,(Rt ok q).2 u om,by have:=Vl q om;lia,'o',λty M4 k6 h6=>?_,λnt M4 k6=>?_)
      .simp only[nD,Ac,Al];lia
      .rfl';show r0 _ _ (_,rfl,R.trans k6,by rw[h6,Kt,S];simp[numO,nD],λv hv=>?_);rw[Kt,S] at hv;simp at hv;rcases hv with hv|rfl
       .show hT v hv
       .show ty
      .rfl';show qn (P λy=>nt (y.2.2 u om)) _ (R.trans k6)
    .rintro N Y ⟨m,rfl,R,H,hT⟩;rw[pr.len,Ik] at H hT;show w1 _ _ (_,_,rfl,R,by rw[H,u0];simp,λj t' hj y0=>?_);by_cases x1:j=i
     .subst x1;rw[ht] at y0;cases y0;show(h1,h2,hT)
     .show ha j t' 'o' y0
   have F:=Z0 (k1.W w0.symm hr);let(ys,hx):=Zt2 o1 E;delta Pg;rfl';show ix_l F f ?_;have t1:=Nk s i;have p0:∀(k:Nat) (zs:LD),own1 t=[k]->∃ws,Z2 J mk=some ws/\(Lg ws)<sizeLine/\tss (K,Γ,G) noX Sg {nx:=C',rt:=Q,bk:=λw p=>tss (K,Γ,G) noX V9 {nx:=λ_ M=>Q .non M,rt:=Q} w p,ct:=C'} [↑r,↑mk,some (.int i),m] (Ha J mk (Cell.lst (ws++[.int k]))):=λk zs S=>by
    show(_,I,?_,X _ (k1.set (.inl rfl)) ?_)
    .have:401<=sizeLine:=Z1 'd';erw[nD,Ac,Al];lia
    .rw[Zd (Zh3 (Z0 I))];simp[nD,S]
   have v0:own1 t=[]->Z2 J mk=some (ms++nD (TD.nums (tk i s)++own1 t)):=λz=>by rw[z,Au];show I
   cases a:isHm t with
   | false=>have n1:¬wdF t="part"/\¬wdF t="round"/\own1 t=[]:=Yy5 a;have m0:=hx;cases m0;rfl';rw[nc ↥n1.1];show ix_l F f ?_;rfl';rw[nb ↥n1.2.1];show X _ k1 (v0 n1.2.2)
   | true=>
    cases t with
    | rd k b r2=>let(x,e2,e3,(c1,d1,e4,_),_):=E;cases e3;cases e4;erw[if_true];rfl';show ix_l F f ?_;rfl';show(Ze (Z0 I),ix_l F f ?_);rfl';show p0 k [] rfl
    | pt k b r2=>let(x,e2,e3,(c1,d1,e4,_),_):=E;cases e3;cases e4;erw[Bool.false_eq_true,if_false];rfl';show(Ze (Z0 I),ix_l F f ?_);rfl';show p0 k [] rfl
    | _=>cases a
  have u1:U.cutD O none (some (i:Int))=O.take i:=by ext U.cutD;rw[show HT.sIx (Lg O) 0 none=0 from rfl,HT.Pz];simp
  have kE:∀{J},Kp p J->Ks (·=mk) M J:=λh=>L.trans (h.mono λ_ _ z=>z.elim);by_cases i0:0<i
  .have z0:(0:Int)<i:='o';erw[z0,if_true,not_true_eq_false,if_false];show(O,Z0 x0,?_);erw[go];rw[u1];have k1:Kp p (p++[Cell.lst (O.take i)]):=Ks.new _ _;show(C,tk i s,Lg p,O.take i,rfl,Z5 _ _ [],(Yk3 s i rt).keep (λc h=>h) (λc a=>(k1.at' c (λz=>z) (ng (T c a) L.len)).trans (kC c a)),λc a=>ng (T c a) (nh L.len k1.len),Yn4 ok i,by have:=Yv1 s i;lia,na _,λJ o0=>?_);have kq:=k1.trans o0;rfl';cases y:TD.on (tk i s) with
   | false=>rw[nb 'd',nc rfl];show qn (P λz=>by have:=z.1 i0;rw[y] at this;cases this) _ (kE kq)
   | true=>
    rw[nc 'd'];show ix_l (Z0 (kq.pW x0)) f ?_;erw[g1];show(C,t,.tup xs,rfl,o1,E.keep (λc h=>h) (λc a=>(kq.at' c (λz=>z) (ng (T c a) L.len)).trans (kC c a)),λc a=>ng (T c a) (nh L.len kq.len),(Rt ok q).1,by have:=Zm5 q;lia,λM2 A=>?_);have kr:=kq.trans A;rfl';cases z:tdS t with
    | false=>rw[nc rfl];show qn (P λy=>by have:=y.2.1;rw[z] at this;cases this) _ (kE kr)
    | true=>rw[nb 'd'];show V M2 (kE kr) (kr.pW hk) (λ_=>y) z
  .have z0:¬(0:Int)<i:='o';erw[z0,if_false,not_false_eq_true,if_true];show ix_l (Z0 x0) f ?_;erw[g1];show(C,t,.tup xs,rfl,o1,E.keep (λc h=>h) kC,λc a=>ng (T c a) L.len,(Rt ok q).1,by have:=Zm5 q;lia,λM2 A=>?_);rfl';cases z:tdS t with
   | false=>rw[nc rfl];show qn (P λy=>by have:=y.2.1;rw[z] at this;cases this) _ (kE A)
   | true=>rw[nb 'd'];show V M2 (kE A) (A.pW hk) (λy=>absurd y i0) z
 .rintro N p ⟨d2,m,rfl,L,hk,ha⟩;delta V9;rfl';rw[Yv,e,Yq5] at hk;rw[Yv,e] at ha;show qy ((Zk6 s).mpr λi t ht=>ha i t (Ai.mp ht).1 ht) _ L hk
def hdW(b:Bool):Str:=if b then "round" else "part"
def opP(p:Bool×Nat):Bool×LD:=#v[false,[.str (hdW p.1),.int p.2]]
def opL(l:List (Bool×Nat)):LD:=(l.map opP).map gt
def Spe(l:List (Bool×Nat))(s:FF):Prop:=(∀m,TD.FL m s->#v[true,m]∈l\/#v[false,m]∈l)/\∀m,TD.FA m s->#v[true,m]∈l
def Zr6(a b:Str)(i j:Int):eqFs [.str a,.int i] [.str b,.int j]=(a==b&&i==j):=by show((a==b&&(i==j&&true))&&true)=_;simp
def Yj2(l:List (Bool×Nat))(b:Bool)(n:Nat):((l.map opP).any λz=>eqFs z.2 [.str (hdW b),.int n])=decide (#v[b,n]∈l):=by
 induction l with
 | nil=>rfl
 | cons p l a=>
  let(c,m):=p;rw[Aj,Ax,a];show(eqFs [.str (hdW c),.int m] _ || _)=_;rw[Zr6];have d:(hdW c==hdW b)=decide (b=c):=by cases b<;>cases c<;>decide+kernel
  rw[d];erw[Ab,Prod.mk.injEq,Bool.decide_or,Bool.decide_and];congr 2;by_cases h:n=m
  .subst h;simp
  .have:¬(m:Int)=n:='o';simp[h,this]
def Yd5(l:List (Bool×Nat)):((l.map opP).all λz=>z.2.all Yd)=true:=by simp[opP,Yd]
def Zj8{l:List (Bool×Nat)}(b:Bool){n:Nat}(h:Zg M o=some (opL l))(q:B (decide (#v[b,n]∈l))):inQ M (.tup [.str (hdW b),.int n]) (.ref o) B:=
 .inr (.inr (.inl (_,_,rfl,h,rfl,Yd5 l,by rw[Yj2];show q)))
def Spe.sts{l:List (Bool×Nat)}{s t:FF}(h:Spe l s)(c:t∈sts s):Spe l t:=by
 have e:∀m,(TD.FL m t->TD.FL m s)/\(TD.FA m t->TD.FA m s):=by
  clear h;intro m;induction s with
  | nil=>cases c
  | act a r d=>rcases Ab.mp c with rfl|c;show(λh=>h.elim,λh=>h.elim);show d c
  | fin a r d=>rcases Ab.mp c with rfl|c;show(λh=>h.elim,λh=>h.elim);show d c
  | lv n r d=>rcases Ab.mp c with rfl|c;show(λh=> .inl (h.resolve_right id),λh=>h.elim);show(λh=> .inr ((d c).1 h),(d c).2)
  | ag n r d=>rcases Ab.mp c with rfl|c;show(λh=>h.elim,λh=> .inl (h.resolve_right id));show((d c).1,λh=> .inr ((d c).2 h))
  | ch a y n r _ _ d=>
   rcases Ab.mp c with rfl|c
   .exact(λh=>h.imp id λh=> .inl (h.resolve_right id),λh=>h.imp id λh=> .inl (h.resolve_right id))
   .exact(λh=> .inr (.inr ((d c).1 h)),λh=> .inr (.inr ((d c).2 h)))
  | rd k b r _ d=>
   rcases Ab.mp c with rfl|c
   .exact(λh=> .inl (h.resolve_right id),λh=> .inl (h.resolve_right id))
   .exact(λh=> .inr ((d c).1 h),λh=> .inr ((d c).2 h))
  | pt k b r _ d=>
   rcases Ab.mp c with rfl|c
   .exact(λh=> .inl (h.resolve_right id),λh=> .inl (h.resolve_right id))
   .exact(λh=> .inr ((d c).1 h),λh=> .inr ((d c).2 h))
 show(λm f=>h.1 m ((e m).1 f),λm f=>h.2 m ((e m).2 f))
def Spe.ch{l:List (Bool×Nat)}{a:Dl}{y n r:FF}(h:Spe l (.ch a y n r)):Spe l y/\Spe l n:=((λm b=>h.1 m (.inl b),λm b=>h.2 m (.inl b)),(λm b=>h.1 m (.inr (.inl b)),λm b=>h.2 m (.inr (.inl b))))
def Spe.rd{l:List (Bool×Nat)}{k:Nat}{b r:FF}(h:Spe l (.rd k b r)):Spe (l++[#v[true,k]]) b:=by
 show(λm a=>?_,λm a=>?_)<;>by_cases e:m=k
 .show .inl (by simp[e])
 .exact(h.1 m (.inl (e,a))).imp (λz=>by simp[z]) λz=>by simp[z]
 .simp[e]
 .have:=h.2 m (.inl (e,a));simp[this]
def Spe.pt{l:List (Bool×Nat)}{k:Nat}{b r:FF}(h:Spe l (.pt k b r)):Spe (l++[#v[false,k]]) b:=by
 show(λm a=>?_,λm a=>?_)
 .by_cases e:m=k
  .show .inr (by simp[e])
  .exact(h.1 m (.inl (e,a))).imp (λz=>by simp[z]) λz=>by simp[z]
 .have:=h.2 m (.inl a);simp[this]
def Zr3(l:List (Bool×Nat))(p:Bool×Nat):opL (l++[p])=opL l++[.tup [.str (hdW p.1),.int p.2]]:=by simp[opL,opP,gt]
def Yc8(l:List (Bool×Nat)):(opL l).length=Lg l:=by simp[opL]
def V0(n:Nat):DSp:=λd M Q _=>∃(C:Nat->Prop) (s:FF) (r:Nat) (a:LD) (o:Nat) (l:List (Bool×Nat)),d=[.ref r,.ref o]/\Z2 M r=some a/\RTs C M (ofF s) a/\(∀c,C c->c<Lg M)/\Z2 M o=some (opL l)/\Spe l s/\dp s<n/\(Lg l)+n<=200/\∀b,Kp M b->Q (.bl true) b
def Fj(n:Nat):DSp:=λb M Q _=>∃(C:Nat->Prop) (t:FF) (d:D) (o:Nat) (l:List (Bool×Nat)),b=[d,.ref o]/\Wj t=true/\RTs C M (ofF t) [d]/\(∀c,C c->c<Lg M)/\Z2 M o=some (opL l)/\Spe l t/\dp t<=n/\(Lg l)+n<200/\∀a,Kp M a->Q (.bl true) a
def Z10(o:Opd):(∃z,o.d= .str z)\/∃i,o.d= .int i:=by cases o;show .inl (_,rfl);show .inr (_,rfl)
def Z21{n k c o:Nat}(w:Bool){b:FF}{d:LD}{l:List (Bool×Nat)}(f:∀c,C c->c<Lg M)(p:Z2 M o=some (opL l))(j:Z2 M c=some d)(i:RTs C M (ofF b) d)(g:Spe (l++[#v[w,k]]) b)(hd:dp b<n)(r:Lg l+n<200)(q:∀M',Kp M M'->Q (.bl true) M'):
  ∃xs ys,Z2 (M++[Cell.lst [.tup [.str (hdW w),.int k]]]) o=some xs/\Z2 (M++[Cell.lst [.tup [.str (hdW w),.int k]]]) (Lg M)=some ys/\(Lg xs)+Lg ys<=sizeLine/\V0 n [.ref c,.ref (M++[Cell.lst [.tup [.str (hdW w),.int k]]]).length] (M++[Cell.lst [.tup [.str (hdW w),.int k]]]++[Cell.lst (xs++ys)]) Q noX:=by
 have a:Kp M (M++[Cell.lst [.tup [.str (hdW w),.int k]]]++[Cell.lst (opL l++[.tup [.str (hdW w),.int k]])]):=(Ks.new M _).app _;show(_,_,Z4 p,Z5 _ _ [],Z1 (by rw[Yc8];change (Lg l)+1<=_;lia),C,b,c,d,_,l++[#v[w,k]],rfl,a.pW j,i.keep (λc h=>h) (λc e=>a.at' c (λz=>z) (f c e)),λc e=>ng (f c e) a.len,?_,g,hd,by rw[Ac];change (Lg l)+1+n<=200;lia,λM' m=>q _ (a.trans m));rw[Zr3];show Z5 _ _ []
def Qf{Γ G}{n:Nat}(F:Γ[32]?=some Yu)(T:Γ[33]?=some W9)(L:Γ[35]?=some (V0 n)):Rd K Γ G (Fj n) Y5 Y6:=by
 rintro N M Q Z ⟨C,t,d,o,l,rfl,W,p,D,u,w,I,S,q⟩;have B:Kp M M:=Ks.refl M;cases t with
 | nil=>cases W
 | act a r=>
  let(x,e,g,f,_):=p;cases g;cases (show d= .tup [.str "sum",.str a.x,a.a.d,.str a.s,a.b.d] from f.1);delta Y5 Y6;rfl';erw[T];show(_,rfl,?_,?_)
  .intro x j;erw[Ab,Ia,or_false] at j;rcases j with rfl|rfl|rfl|rfl|rfl
   .show .inl (_,rfl)
   .show .inl (_,rfl)
   .show Z10 _
   .show .inl (_,rfl)
   .show Z10 _
  .show q _ B
 | fin a r=>let(x,e,g,f,_):=p;cases g;cases (show d= .tup [.str "end"] from f.1);delta Y5 Y6;rfl';delta Zz;rfl';delta Yg;rfl';delta Xa;rfl';delta Tg;rfl';show(Z1 'd',.inr (.inr (.inr (_,_,.inl rfl,.inl rfl,rfl,rfl,?_))));rw[show eqFs [.str "end"] [.str "end"]=true by decide+kernel];show q _ B
 | lv m r=>
  let(x,e,g,f,_):=p;cases g;cases (show d= .tup [.str "leave",.int m] from f.1);delta Y5 Y6;rfl';delta Zz;rfl';delta Yg;rfl';delta Xa;rfl';erw[F];show(_,rfl,?_);rfl';delta We;rfl';show(Z1 'd',Zj8 true (Z0 u) ?_);rfl';by_cases v:#v[true,m]∈l
  .rw[nb (not_not_intro v),decide_eq_true v];show q _ B
  .rw[nc v];show(Z1 'd',Zj8 false (Z0 u) ?_);rw[decide_eq_true ((w.1 m (.inl rfl)).resolve_left v)];show q _ B
 | ag m r=>let(x,e,g,f,_):=p;cases g;cases (show d= .tup [.str "again",.int m] from f.1);delta Y5 Y6;rfl';delta Zz;rfl';delta Yg;rfl';delta Xa;rfl';erw[F];show(_,rfl,?_);rfl';delta We;rfl';show(Z1 'd',Zj8 true (Z0 u) ?_);rfl';have v:=w.2 m (.inl rfl);rw[nb (not_not_intro v),decide_eq_true v];show q _ B
 | ch a y n r=>
  let(x,e,g,(P,c2,O,d2,f,R,E,A,k4,Y,X),_):=p;cases g;cases f;let(V,U):=w.ch;erw[dp] at I;delta Y5 Y6;rfl';delta Zz;rfl';erw[T];rw[nc 'd'];show('k',_,rfl,?_,?_)
  .intro x j;have j:x∈[.str "choice",a.a.d,.str a.s,a.b.d]:=j;erw[Ab,Ia,or_false] at j;rcases j with rfl|rfl|rfl|rfl
   .show .inl (_,rfl)
   .show Z10 _
   .show .inl (_,rfl)
   .show Z10 _
  rfl';delta Tf;rfl';erw[L];show(C,y,P,O,o,l,rfl,A,k4,D,u,V,'o','o',λM1 i=>?_);rfl';show(C,n,c2,d2,o,l,rfl,i.pW Y,X.keep (λc h=>h) (λc J=>i.at' c (λz=>z) (D c J)),λc J=>ng (D c J) i.len,i.pW u,U,'o','o',λM2 H=>?_);show q _ (i.trans H)
 | rd k b r=>let(x,e,g,(P,O,f,R,E,A),_):=p;cases g;cases f;erw[dp] at I;erw[if_true];delta Y5 Y6;rfl';delta Zz;rfl';delta Yg;rfl';erw[F];show(_,rfl,?_);rfl';delta Wf;rfl';erw[L];rw[nb 'd'];show(Z1 'd',Z1 'd',Z21 true D u E A w.rd 'o' S q)
 | pt k b r=>let(x,e,g,(P,O,f,R,E,A),_):=p;cases g;cases f;erw[dp] at I;erw[Bool.false_eq_true,if_false];delta Y5 Y6;rfl';delta Zz;rfl';delta Yg;rfl';erw[F];show(_,rfl,?_);rfl';delta Wf;rfl';erw[L];rw[nb 'd'];show(Z1 'd',Z1 'd',Z21 false D u E A w.pt 'o' S q)
def Eb{Γ G}{n:Nat}(g1:Γ[34]?=some (Fj n)):Rd K Γ G (V0 (n+1)) G2 J6:=by
 rintro u M Q Z ⟨C,s,r,N,o,l,rfl,k,y,v,F,x,L,J,q⟩;have D:∀{t:Ty} {B:Bool->Prop},isD K M (.ref r) (.ty (Yo t)) B=B (tyLst t):=fun{t B}=>Nl k;delta G2 J6;rfl';erw[D];rfl';delta Nj;rfl';show(_,Z0 k,?_);show Wg (λi e f=>∃d,e=[↑r,↑o,d]/\Kp M f) (none,rfl,Ks.refl M) ?_ ?_ ?_
 .rintro i e f _ ⟨d,rfl,a⟩;show Z0 (a.pW k)
 .rintro i d e f R H ⟨O,rfl,a⟩ p;let(t,w,E,A,j,rfl,I):=O7 s y H;have b:=Df E;rw[tg_one];delta Nb;rfl';erw[g1];show(C,t,.tup w,o,l,rfl,A,j.keep (λc h=>h) (λc m=>a.at' c (λz=>z) (v c m)),λc m=>ng (v c m) a.len,a.pW F,x.sts b,by have:=Zm5 b;lia,'o',λP g=>?_);rfl';show p _ _ (_,rfl,a.trans g)
 .rintro e f ⟨d,rfl,a⟩;delta Ov;rfl';show q _ a
def Zc1{Γ G}:Rd K Γ G (V0 0) G2 J6:=by rintro a M Q Z ⟨C,s,r,h,o,l,rfl,d,c,g,e,b,f,_⟩;lia
def AL(M:Z3):Nat->D->D->Prop
 | 0,x,y=>x=y/\Yd x=true
 | n+1,x,y=>(x=y/\Yd x=true)\/(∃c d,x= .tup c/\y= .tup d/\(Lg c)=Lg d/\(Lg c)<=100000/\∀(i:Nat) a b,c[i]?=some a->d[i]?=some b->AL M n a b)\/
   ∃m k c d,x= .ref m/\y= .ref k/\Z2 M m=some c/\Z2 M k=some d/\(Lg c)=Lg d/\(Lg c)<=100000/\∀(i:Nat) a b,c[i]?=some a->d[i]?=some b->AL M n a b
def Xj(n:Nat):DSp:=λa M Q _=>∃x y,a=[x,y]/\AL M n x y/\Q (.bl true) M
def AL.flat{n:Nat}{x:D}(h:Yd x=true):AL M n x x:=by
 cases n with
 | zero=>show(rfl,h)
 | succ n=>show .inl (rfl,h)
def Ow{Γ G}{x:D}(h:Yd x=true)(q:Q (.bl true) M):tss (K,Γ,G) noX Vy {nx:=λ_ M=>Q .non M,rt:=Q} (start0 T6 [x,x]) M:=by
 delta Vy T6;rfl';cases x with
 | non=>rfl';show q
 | bl b=>rfl';delta Xu;rfl';simpa using q
 | int i=>rfl';delta Xu;rfl';delta Wq;rfl';simpa using q
 | str z=>rfl';delta Xu;rfl';delta Wq;rfl';delta Vu;rfl';simpa using q
 | _=>left
def Zh7{Γ G}:Rd K Γ G (Xj 0) Vy T6:=by rintro a M Q Z ⟨x,y,rfl,⟨rfl,h⟩,q⟩;show Ow h q
def Ec{Γ G}{n:Nat}(g:Γ[36]?=some (Xj n)){M:Z3}{Q:DK}{x y:D}{xs ys:LD}{d:Option D}(o:Lg xs=Lg ys)(r:Lg xs<=100000)(h:∀(i:Nat) a b,xs[i]?=some a->ys[i]?=some b->AL M n a b)
  (k:∀F:DK,F (.int (Lg xs)) M->bfD K .len [x] M F) (f:∀F:DK,F (.int (Lg ys)) M->bfD K .len [y] M F) (m:∀(i:Nat) a (F:D->Prop),xs[i]?=some a->F a->ixD M x (.int i) F) (l:∀(i:Nat) a (F:D->Prop),ys[i]?=some a->F a->ixD M y (.int i) F) (q:Q (.bl true) M):
  tss (K,Γ,G) noX Rj {nx:=λ_ M=>Q .non M,rt:=Q} [some x,some y,d] M:=by
 delta Rj;rfl';show k _ (f _ ?_);rfl';rw[nb (by rw[o];simp)];rfl';delta Ox;rfl';show f _ ('o','o',?_);rfl';rw[Kl];show Ji (λi c e=>∃d,c=[some x,some y,d]/\e=M) (d,rfl,rfl) ?_ ?_
 .rintro i c e C j ⟨d,rfl,rfl⟩ p
  (delta Oz;erw[Int.zero_add])
  rfl';show m i _ _ (Ah 'o') (l i _ _ (Ah j) ?_);erw[g];show(_,_,rfl,h i _ _ (Ah 'o') (Ah j),?_);rfl';show p _ _ (_,rfl,rfl)
 .rintro c e ⟨d,rfl,rfl⟩;delta Oh;rfl';show q
def Zf6{Γ G}{n:Nat}(g:Γ[36]?=some (Xj n)):Rd K Γ G (Xj (n+1)) Vy T6:=by
 rintro o M Q Z ⟨x,y,rfl,h|⟨r,p,rfl,rfl,d,c,h⟩|⟨m,k,r,p,rfl,rfl,l,j,d,c,h⟩,q⟩
 .let(rfl,h):=h;show Ow h q
 .delta Vy T6;rfl';delta Xu;rfl';delta Wq;rfl';delta Vu;rfl';delta Rs;rfl';show Ec g d c h (λF f=>f) (λF f=>f) (λi a F e f=>(a,Wi e,f)) (λi a F e f=>(a,Wi e,f)) q
 .have s:∀{t:Ty} {B:Bool->Prop},isD K M (.ref m) (.ty (Yo t)) B=B (tyLst t):=fun{t B}=>Nl l;have b:∀{t:Ty} {B:Bool->Prop},isD K M (.ref k) (.ty (Yo t)) B=B (tyLst t):=fun{t B}=>Nl j;delta Vy T6;rfl';delta Xu;rfl';erw[b];rfl';delta Wq;rfl';erw[b];rfl';delta Vu;rfl';erw[b];rfl';delta Rs;rfl';erw[s,b];rfl';show Ec g d c h (λF f=>Zv (Z0 l) f) (λF f=>Zv (Z0 j) f) (λi a F e f=>ix_l (Z0 l) e f) (λi a F e f=>ix_l (Z0 j) e f) q
def ALs(M:Z3)(n:Nat)(xs ys:LD):Prop:=Lg xs=Lg ys/\∀(i:Nat) a b,xs[i]?=some a->ys[i]?=some b->AL M n a b
def ALs.nil{n:Nat}:ALs M n [] []:=(rfl,λi a b h=>by simp at h)
def ALs.cons{M:Z3}{n:Nat}{x y:D}{xs ys:LD}(h:AL M n x y)(c:ALs M n xs ys):ALs M n (x::xs) (y::ys):=by
 show(by rw[Af,Af,c.1],λi a b e d=>?_);cases i with
 | zero=>cases e;cases d;show h
 | succ i=>show c.2 i a b e d
def ALs.tup{M:Z3}{n:Nat}{xs ys:LD}(h:ALs M n xs ys)(a:Lg xs<=100000):AL M (n+1) (.tup xs) (.tup ys):= .inr (.inl (_,_,rfl,rfl,h.1,a,h.2))
def ALs.ref{n c a:Nat}(h:ALs M n xs ys)(b:Lg xs<=100000)(e:Z2 M c=some xs)(d:Z2 M a=some ys):AL M (n+1) (.ref c) (.ref a):= .inr (.inr (_,_,_,_,rfl,rfl,e,d,h.1,b,h.2))
def al_o{n:Nat}(o:Opd):AL M n o.d o.d:=AL.flat (by cases o<;>rfl)
def al_s{n:Nat}(z:Str):AL M n (.str z) (.str z):=AL.flat rfl
def al_i{n:Nat}(z:Int):AL M n (.int z) (.int z):=AL.flat rfl
def Y65(s:FF):∀{n:Nat} {es c:LD},RTs C M (ofF s) es->RTs C' M (ofF s) c->mny s<=100000->dp s<=n->ALs M (2 * n+1) es c:=by
 induction s with
 | nil=>intro n es c h f _ _;rw[show es=[] from h,show c=[] from f];show ALs.nil
 | act a r g=>rintro n es c ⟨x,e,rfl,q,h⟩ ⟨t,u,rfl,d,f⟩ i j;rw[q.1,d.1];show ALs.cons (ALs.tup (.cons (al_s _) (.cons (al_s _) (.cons (al_o _) (.cons (al_s _) (.cons (al_o _) .nil))))) 's') (g h f (by erw[mny] at i;lia) j)
 | fin a r g=>rintro n es c ⟨x,e,rfl,q,h⟩ ⟨t,u,rfl,d,f⟩ i j;rw[q.1,d.1];show ALs.cons (ALs.tup (.cons (al_s _) .nil) 's') (g h f (by erw[mny] at i;lia) j)
 | lv k r g=>rintro n es c ⟨x,e,rfl,q,h⟩ ⟨t,u,rfl,d,f⟩ i j;rw[q.1,d.1];show ALs.cons (ALs.tup (.cons (al_s _) (.cons (al_i _) .nil)) 's') (g h f (by erw[mny] at i;lia) j)
 | ag k r g=>rintro n es c ⟨x,e,rfl,q,h⟩ ⟨t,u,rfl,d,f⟩ i j;rw[q.1,d.1];show ALs.cons (ALs.tup (.cons (al_s _) (.cons (al_i _) .nil)) 's') (g h f (by erw[mny] at i;lia) j)
 | ch a y z r S R g=>
  rintro n es c ⟨x,e,rfl,⟨P,Y,O,X,rfl,N,B,p,L,Q,K⟩,h⟩ ⟨t,u,rfl,⟨A,U,w,T,rfl,v,o,l,G,F,E⟩,f⟩ i j;erw[mny] at i;erw[dp] at j;obtain⟨n,rfl⟩:∃m,n=m+1:=(n - 1,'o');have J:=L.len.trans (Xg y);have W:=K.len.trans (Xg z);have I:=Vm y;have V:=Vm z;show ALs.cons (ALs.tup (.cons (al_s _) (.cons (al_o _) (.cons (al_s _) (.cons (al_o _) (.cons ?_ (.cons ?_ .nil)))))) 's') (g h f 'o' 'o')
  .show ALs.ref (S L G 'o' 'o') 'o' p l
  .show ALs.ref (R K E 'o' 'o') 'o' Q F
 | rd k b r H g=>rintro n es c ⟨x,e,rfl,⟨P,O,rfl,N,B,p⟩,h⟩ ⟨t,u,rfl,⟨A,w,rfl,v,o,l⟩,f⟩ i j;erw[mny] at i;erw[dp] at j;obtain⟨n,rfl⟩:∃m,n=m+1:=(n - 1,'o');have J:=p.len.trans (Xg b);have I:=Vm b;show ALs.cons (ALs.tup (.cons (al_s _) (.cons (al_i _) (.cons ?_ .nil))) 's') (g h f 'o' 'o');show ALs.ref (H p l 'o' 'o') 'o' B o
 | pt k b r H g=>rintro n es c ⟨x,e,rfl,⟨P,O,rfl,N,B,p⟩,h⟩ ⟨t,u,rfl,⟨A,w,rfl,v,o,l⟩,f⟩ i j;erw[mny] at i;erw[dp] at j;obtain⟨n,rfl⟩:∃m,n=m+1:=(n - 1,'o');have J:=p.len.trans (Xg b);have I:=Vm b;show ALs.cons (ALs.tup (.cons (al_s _) (.cons (al_i _) (.cons ?_ .nil))) 's') (g h f 'o' 'o');show ALs.ref (H p l 'o' 'o') 'o' B o
def Yn9{s:FF}{n r d:Nat}{es a:LD}(h:Z2 M r=some es)(c:RTs C M (ofF s) es)(h':Z2 M d=some a)(b:RTs C' M (ofF s) a)(e:mny s<=100000)(hd:dp s<=n):AL M (2 * n+2) (.ref r) (.ref d):=
 ALs.ref (Y65 s c b e hd) (by have:=c.len.trans (Xg s);have:=Vm s;lia) h h'
def DN(a:LQ)(kvs:KQ9):Prop:=Lg kvs=Lg a/\∀k:Nat,valD kvs (Hr (k:Int))=if k∈a then some (.int (a.idxOf k:Nat)) else none
def Zz4{k:Key}(h:valD kvs k=none):putD kvs k v=kvs++[#v[k,v]]:=by ext h valD;rw[Option.map_eq_none_iff,List.find?_eq_none] at h;ext putD;rw[nb];intro z;let(x,a,e):=Hz.mp z;show h x a e
def DN.put{b:LQ}(h:DN b kvs){k:Nat}(d:k∉b):DN (b++[k]) (putD kvs (Hr (k:Int)) (.int (Lg kvs:Nat))):=by
 have e:valD kvs (Hr (k:Int))=none:=by rw[h.2,nb d]
 show(by rw[Zz4 e];simp[h.1],λj=>?_);rw[Z38];by_cases c:j=k
 .subst c;rw[nc rfl,nc 's',Ig,nb d,h.1];simp
 .rw[nb (λz=>c (by have:=Hr.inj z;lia)),h.2];by_cases a:j∈b
  .rw[nc a,nc (by simp[a]),Ig,nc a]
  .rw[nb a,nb (by simp[a,c])]
structure NS(C:Nat->Prop)(r p q:Nat)(all:LD)(ns:LQ)(es1:LD)(M:Z3):Prop where
 xr:Z2 M r=some all
 xd:∃kvs,Yk M p=some kvs/\DN ns kvs
 xf:Z2 M q=some es1
 xc:∀c,C c->c<Lg M/\c≠p/\c≠q
 xn:p≠q/\r≠p/\r≠q
def NS.up{r p q:Nat}{d f b:LD}{h a:LQ}(S:NS C r p q d h f M)(ks:Ks (λx=>x=p\/x=q) M e)(hd:∃kvs,Yk e p=some kvs/\DN a kvs)(i:Z2 e q=some b):NS C r p q d a b e:=
 (ks.W (λz=>z.elim S.xn.2.1 S.xn.2.2) S.xr,hd,i,λc g=>(ng (S.xc c g).1 ks.len,(S.xc c g).2),S.xn)
def NS.kc{r p q:Nat}{d b:LD}{f:LQ}(S:NS C r p q d f b M)(ks:Ks (λx=>x=p\/x=q) M e):∀c,C c->e[c]?=M[c]?:=λc a=>ks.at' c (λz=>z.elim (S.xc c a).2.1 (S.xc c a).2.2) (S.xc c a).1
def Zd9{f g:Nat->Nat}(s:FF)(h:∀m,m∈TD.nums s\/TD.FL m s\/TD.FA m s->f m=g m):TD.ren f s=TD.ren g s:=by
 induction s with
 | nil=>rfl
 | act a r d=>erw[TD.ren];rw[d h]
 | fin a r d=>erw[TD.ren];rw[d h]
 | lv n r d=>erw[TD.ren];rw[h n (.inr (.inl (.inl rfl))),d λm c=>h m (c.imp id (.imp .inr id))]
 | ag n r d=>erw[TD.ren];rw[h n (.inr (.inr (.inl rfl))),d λm c=>h m (c.imp id (.imp id .inr))]
 | ch a y n r j l d=>erw[TD.ren];rw[j λm c=>h m (c.imp (λz=>by simp[TD.nums,z]) (.imp .inl .inl)),l λm c=>h m (c.imp (λz=>by simp[TD.nums,z]) (.imp (λz=> .inr (.inl z)) λz=> .inr (.inl z))),d λm c=>h m (c.imp (λz=>by simp[TD.nums,z]) (.imp (λz=> .inr (.inr z)) λz=> .inr (.inr z)))]
 | rd k b r i d=>
  erw[TD.ren];rw[h k (.inl (by simp[TD.nums])),d λm c=>h m (c.imp (λz=>by simp[TD.nums,z]) (.imp .inr .inr)),i λm c=>?_];by_cases e:m=k
  .rw[e];show h k (.inl (by simp[TD.nums]))
  .show h m (c.imp (λz=>by simp[TD.nums,z]) (.imp (λz=> .inl (e,z)) λz=> .inl (e,z)))
 | pt k b r i d=>
  erw[TD.ren];rw[h k (.inl (by simp[TD.nums])),d λm c=>h m (c.imp (λz=>by simp[TD.nums,z]) (.imp .inr .inr)),i λm c=>?_];by_cases e:m=k
  .rw[e];show h k (.inl (by simp[TD.nums]))
  .show h m (c.imp (λz=>by simp[TD.nums,z]) (.imp (λz=> .inl (e,z)) .inl))
def Y98{a N:LQ}(h:∃z,N=a++z)(b:m∈a):N.idxOf m=a.idxOf m:=by let(z,rfl):=h;rw[Ig,nc b]
def Ot(a:LQ)(s:FF):Prop:=∀m,TD.FL m s\/TD.FA m s->m∈a
def Fq(n:Nat):DSp:=λh M Q _=>∃(C:Nat->Prop) (s:FF) (r:Nat) (g:LD) (p:Nat) (b:LQ) (d:KQ9),h=[.ref r,.ref p]/\Z2 M r=some g/\RTs C M (ofF s) g/\(∀c,C c->c<Lg M)/\¬C p/\r≠p/\Yk M p=some d/\DN b d/\(b++TD.nums s).Nodup/\(b++TD.nums s).length<=1000/\Ot b s/\dp s<n/\mny s<=1000/\
 ∀e a i f,Ks (·=p) M e->Yk e p=some a->DN (b++TD.nums s) a->Fm i e (Lg M) (ofF (TD.ren (b++TD.nums s).idxOf s)) f->Q (.ref f) e
def NL(K:Aa)(l:List DSp)(G:LD)(n:Nat)(C:Nat->Prop)(r p q:Nat)(b:LD)(N:LQ)(s:FF):Prop:=
 ∀(f:LQ) (j a:LD) (M:Z3) (R:DEnds) (i h g:Option D),NS C r p q b f a M->RTs C M (ofF s) j->(Lg a)+mny s<=2000->(∃z,N=f++TD.nums s++z)->Ot f s->dp s<=n->
  (∀e d k i h g,Ks (λx=>x=p\/x=q) M e->NS C r p q b (f++TD.nums s) (a++d) e->RTs k e (ofF (TD.ren N.idxOf s)) d->(∀c,k c->(Lg M)<=c/\c<Lg e)->R.nx [↑r,↑p,↑q,i,h,g] e)->
  forD (.lst r) b [3] (tss (K,l,G) noX Zb) j R [↑r,↑p,↑q,i,h,g] M
def N8{Γ G}{n:Nat}{C C1:Nat->Prop}{r p q:Nat}{f e b:LD}{N d:LQ}{a:FF}{M g:Z3}{t':T}{d':D}{R:DEnds}{s o:Option D}(Q:NL K Γ G n C r p q f N a)
  (hp:p<Lg M/\q<Lg M) (l:NS C r p q f d b g) (ks:Ks (λx=>x=p\/x=q) M g) (I:RTs C g (ofF a) e) (V:RT C1 g t' d') (k:∀c,C1 c->(Lg M)<=c/\c<Lg g) (S:Lg b+1+mny a<=2000) (U:∃z,N=d++TD.nums a++z) (L:Ot d a) (hd:dp a<=n)
  (B:∀M' t u E s o,Ks (λx=>x=p\/x=q) M M'->NS C r p q f (d++TD.nums a) (b++d'::t) M'->RTs u M' (t'::ofF (TD.ren N.idxOf a)) (d'::t)->(∀c,u c->(Lg M)<=c/\c<Lg M')->R.nx [↑r,↑p,↑q,E,s,o] M'):
  tss (K,Γ,G) noX Xp {nx:=λj F=>forD (.lst r) f [3] (tss (K,Γ,G) noX Zb) e R j F,rt:=R.rt,bk:=R.nx,ct:=λj F=>forD (.lst r) f [3] (tss (K,Γ,G) noX Zb) e R j F} [↑r,↑p,↑q,some d',s,o] g:=by
 have O:=Z9 (Z0 l.xf);have y:Ks (λx=>x=p\/x=q) g (g.set q (.lst (b++[d']))):=(Ks.refl g).set (.inl (.inr rfl));let(v,W,t):=l.xd;have X:NS C r p q f d (b++[d']) (g.set q (.lst (b++[d']))):=l.up y (v,by rw[Ge (Av l.xn.1)];show W,t) (Zd O);delta Xp;rfl';show(Ze (Z0 l.xf),b,l.xf,Za 'o',?_);show Q d e _ _ R _ _ _ X (I.keep (λ_ h=>h) (l.kc y)) (by rw[Ac,Dg];show S) U L hd λM' m u E s o P H J A=>?_;rw[An] at H;have w:=y.trans P;have Z:=ks.len;have Y:=w.len;show B M' m (λc=>C1 c\/u c) E s o (ks.trans w) H (d',m,rfl,V.keep (λ_ h=> .inl h) (λc i=>w.at' c (λz=>?_) (k c i).2),J.up λ_ h=> .inr h) λc i=>?_
 .have:=(k c i).1;rcases z with z|z<;>lia
 .rcases i with i|i
  .have:=k c i;lia
  .have:=A c i;rw[Dm] at this;lia
def Zb4{b a N:LQ}(h:∃z,N=b++a++z)(c:m∈b):N.idxOf m=b.idxOf m:=by let(z,rfl):=h;rw[An,Ig,nc c]
def Ek{b N:LQ}{y:FF}(h:∃z,N=b++TD.nums y++z)(o:Ot b y):TD.ren (b++TD.nums y).idxOf y=TD.ren N.idxOf y:=by
 show Zd9 y λm a=>(Y98 h ?_).symm;rcases a with a|a
 .show Bk _ a
 .show Bs _ (o m a)
def Z41{Γ G}{n:Nat}{w:Bool}{r p q k c:Nat}{g e i d1:LD}{N f z:LQ}{b a:FF}(ih:NL K Γ G n C r p q g N a)(E:N.Nodup)(hN:Lg N<=1000)
  (S:NS C r p q g f i M) (hk:Yk M p=some kvs) (dn:DN f kvs) (k1:C c) (k2:Z2 M c=some d1) (k3:RTs C M (ofF b) d1) (rt:RTs C M (ofF a) e) (hb:Lg i+1+mny a<=2000) (U:mny b<=1000) (F:N=f++(k::TD.nums b++TD.nums a)++z) (ob:Ot (f++[k]) b) (or:Ot f a) (db:dp b<n) (dr:dp a<=n)
  (X:∀M' Y O d3 d4 H,Ks (λx=>x=p\/x=q) M M'->NS C r p q g (f++(k::TD.nums b++TD.nums a)) (i++Y) M'->RTs O M' (.home w (N.idxOf k:Nat) (ofF (TD.ren N.idxOf b))::ofF (TD.ren N.idxOf a)) Y->(∀c,O c->(Lg M)<=c/\c<Lg M')->R.nx [↑r,↑p,↑q,d3,d4,H] M'):
  ixD (M.set p (.dct (putD kvs (Hr (k:Int)) (.int (Lg kvs:Nat))))) (.ref p) (.int k) λv=>Fq n [.ref c,.ref p] (M.set p (.dct (putD kvs (Hr (k:Int)) (.int (Lg kvs:Nat))))) (λd J=>3<=sizeLine/\
   tss (K,Γ,G) noX Xp {nx:=λl M2=>forD (.lst r) g [3] (tss (K,Γ,G) noX Zb) e R l M2,rt:=R.rt,bk:=R.nx,ct:=λl M2=>forD (.lst r) g [3] (tss (K,Γ,G) noX Zb) e R l M2} [↑r,↑p,↑q,some (.tup [.str (hdW w),v,d]),some v,H] J) noX:=by
 have lp:=Wy hk;have P:k∉f:=by rw[F,An] at E;show λh=>(As.mp E).2.2 k h k 's' rfl
 have ek:N.idxOf k=Lg f:=by rw[F,An,Ig,nb P];simp
 have s:N=f++[k]++TD.nums b++(TD.nums a++z):=by rw[F];simp
 have t:=dn.put P;have B:Yk (M.set p (.dct (putD kvs (Hr (k:Int)) (.int (Lg kvs:Nat))))) p=some (putD kvs (Hr (k:Int)) (.int (Lg kvs:Nat))):=by ext Yk;rw[Ex lp]
 have o:Ks (·=p) M (M.set p (.dct (putD kvs (Hr (k:Int)) (.int (Lg kvs:Nat))))):=(Ks.refl M).set (.inl rfl);generalize putD kvs (Hr (k:Int)) (.int (Lg kvs:Nat))=kv1 at t B o;generalize M.set p (.dct kv1)=M0 at B o;have vk:=t.2 k;rw[nc 's',Ig,nb P] at vk;have I:¬C p:=λh=>(S.xc p h).2.1 rfl;have kc:∀c,C c->M0[c]?=M[c]?:=λc j=>o.at' c (λh=>I (h ▸ j)) (S.xc c j).1;have Q:(f++[k]++TD.nums b).Nodup:=by rw[s] at E;show(As.mp E).1
 have ll:(f++[k]++TD.nums b).length<=1000:=by have:=congrArg Lg s;rw[Ac] at this;lia
 show ix_d B rfl vk (C,b,c,d1,p,_,kv1,rfl,o.W (λh=>I (h ▸ k1)) k2,k3.keep (λ_ h=>h) kc,λc j=>ng (S.xc c j).1 o.len,I,λz=>I (z ▸ k1),B,t,Q,ll,ob,db,U,λJ u C1 r1 A V Z L=>(Z1 'd',?_));have y:=o.trans A;have T:Ks (λx=>x=p\/x=q) M J:=y.mono λ_ _ h=> .inl h;have S1:NS C r p q g (f++[k]++TD.nums b) i J:=S.up T (u,V,Z) (y.W (λh=>S.xn.1 h.symm) S.xf);rw[Ek (N:=N) (_,s) ob] at L;let(da,a1,a2):=L.e;have l0:=o.len;have l1:=A.len;have z0:=Z9 (Z0 a1);have n1:=L.n.2;show N8 ih (lp,Z9 (Z0 S.xf)) S1 T (rt.keep (λ_ h=>h) (S.kc T)) (C1:=λc=>C1 c\/c=r1) (t':= .home w (N.idxOf k:Nat) (ofF (TD.ren N.idxOf b))) (r1,da,by rw[ek];simp[hdW],.inr rfl,a1,a2.up λ_ h=> .inl h) (λc j=>?_) hb (z,by rw[F];simp) (λm U=>Bs _ (Bs _ (or m U))) dr λM' Y O d3 d4 H k' S' r' j=>X M' _ O _ _ _ k' ?_ r' j
 .rcases j with h|h
  .have:=L.c c h;lia
  .lia
 .rw[show f++(k::TD.nums b++TD.nums a)=f++[k]++TD.nums b++TD.nums a by simp];show S'
def Zx3{Γ G}{n:Nat}(g:Γ[37]?=some (Fq n)){r p q:Nat}{all:LD}(nd:N.Nodup)(hN:Lg N<=1000)(s:FF):(mny s<=1000->NL K Γ G n C r p q all N s):=by
 induction s with
 | nil=>intro _ ns es es1 M R d3 d4 d5 S rt hb hz ot hd fin;rw[show es=[] from rt];show(Z0 S.xr,fin M [] (λ_=>False) _ _ _ (Ks.refl M) (by rw[Au,show TD.nums (.nil:FF)=[] from rfl,Au];show S) rfl λc h=>h.elim)
 | act a rst ih=>intro hy ns es es1 M R d3 d4 d5 S rt hb hz ot hd fin;let(x,e,rfl,h0,rt):=rt;erw[mny] at hb hy;show(Z0 S.xr,?_);rw[tg_one];have h1:=h0.1;cases (show x= .tup [.str "sum",.str a.x,a.a.d,.str a.s,a.b.d] from h1);generalize hX:forD (.lst r) all [3] (tss (K,Γ,G) noX Zb) e R=NX;delta Zb;rfl';subst hX;show N8 (ih 'o') (Wy S.xd.choose_spec.1,Z9 (Z0 S.xf)) S (Ks.refl M) rt (C1:=λ_=>False) (t':= .leaf (.sum a.x a.a a.s a.b)) (rfl,rfl,rfl) (λc h=>h.elim) 'o' hz ot hd λM' e2 C2 d3 d4 d5 k S' r' hc=>fin M' _ C2 _ _ _ k S' r' hc
 | fin a rst ih=>intro hy ns es es1 M R d3 d4 d5 S rt hb hz ot hd fin;let(x,e,rfl,h0,rt):=rt;erw[mny] at hb hy;show(Z0 S.xr,?_);rw[tg_one];have h1:=h0.1;cases (show x= .tup [.str "end"] from h1);generalize hX:forD (.lst r) all [3] (tss (K,Γ,G) noX Zb) e R=NX;delta Zb;rfl';subst hX;show N8 (ih 'o') (Wy S.xd.choose_spec.1,Z9 (Z0 S.xf)) S (Ks.refl M) rt (C1:=λ_=>False) (t':= .leaf .fin) (rfl,rfl,rfl) (λc h=>h.elim) 'o' hz ot hd λM' e2 C2 d3 d4 d5 k S' r' hc=>fin M' _ C2 _ _ _ k S' r' hc
 | lv m rst ih=>intro hy ns es es1 M R d3 d4 d5 S rt hb hz ot hd fin;let(x,e,rfl,h0,rt):=rt;erw[mny] at hb hy;have hm:=ot m (.inl (.inl rfl));have em:=Zb4 hz hm;let(kvs,hk,dn):=S.xd;have vm:=dn.2 m;rw[nc hm] at vm;show(Z0 S.xr,?_);rw[tg_one];have h1:=h0.1;cases (show x= .tup [.str "leave",.int m] from h1);generalize hX:forD (.lst r) all [3] (tss (K,Γ,G) noX Zb) e R=NX;delta Zb;rfl';show ix_d hk rfl vm (Z1 'd',?_);subst hX;show N8 (ih 'o') (Wy S.xd.choose_spec.1,Z9 (Z0 S.xf)) S (Ks.refl M) rt (C1:=λ_=>False) (t':= .leaf (.lve (N.idxOf m:Nat))) (by rw[em];rfl,rfl,rfl) (λc h=>h.elim) 'o' hz (λk hk=>ot k (hk.imp .inr id)) hd λM' e2 C2 d3 d4 d5 k S' r' hc=>fin M' _ C2 _ _ _ k S' r' hc
 | ag m rst ih=>intro hy ns es es1 M R d3 d4 d5 S rt hb hz ot hd fin;let(x,e,rfl,h0,rt):=rt;erw[mny] at hb hy;have hm:=ot m (.inr (.inl rfl));have em:=Zb4 hz hm;let(kvs,hk,dn):=S.xd;have vm:=dn.2 m;rw[nc hm] at vm;show(Z0 S.xr,?_);rw[tg_one];have h1:=h0.1;cases (show x= .tup [.str "again",.int m] from h1);generalize hX:forD (.lst r) all [3] (tss (K,Γ,G) noX Zb) e R=NX;delta Zb;rfl';show ix_d hk rfl vm (Z1 'd',?_);subst hX;show N8 (ih 'o') (Wy S.xd.choose_spec.1,Z9 (Z0 S.xf)) S (Ks.refl M) rt (C1:=λ_=>False) (t':= .leaf (.agn (N.idxOf m:Nat))) (by rw[em];rfl,rfl,rfl) (λc h=>h.elim) 'o' hz (λk hk=>ot k (hk.imp id .inr)) hd λM' e2 C2 d3 d4 d5 k S' r' hc=>fin M' _ C2 _ _ _ k S' r' hc
 | ch a y z rst _ _ ih=>
  intro hy ns es es1 M R d3 d4 d5 S rt hb hz ot hd fin;let(x,e,rfl,(c1,c2,d1,d2,rfl,k1,k2,k3,k4,k5,k6),rt):=rt;erw[mny] at hb hy;erw[dp] at hd;let(w,hw):=hz;erw[TD.nums] at hw;let(kvs,hk,dn):=S.xd;show(Z0 S.xr,?_);rw[tg_one];generalize hX:forD (.lst r) all [3] (tss (K,Γ,G) noX Zb) e R=NX;delta Zb;rfl';erw[g];have nd1:(ns++TD.nums y).Nodup:=by rw[hw] at nd;erw[An] at nd;rw[<-An] at nd;show(As.mp nd).1
  have nd2:(ns++TD.nums y++TD.nums z).Nodup:=by rw[hw] at nd;erw[An] at nd;rw[<-An,<-An] at nd;show(As.mp nd).1
  have ll:(ns++TD.nums y++TD.nums z).length<=1000:=by have:=congrArg Lg hw;erw[Ac] at this |-;lia
  have ll':=ll;rw[Ac] at ll';have o1:Ot ns y:=λm hm=>ot m (hm.imp .inl .inl);have o2:Ot (ns++TD.nums y) z:=λm hm=>Bs _ (ot m (hm.imp (λh=> .inr (.inl h)) λh=> .inr (.inl h)));have cp:¬C p:=λh=>(S.xc p h).2.1 rfl;have lp:=Wy hk;show(C,y,c1,d1,p,ns,kvs,rfl,k3,k4,λc hc=>(S.xc c hc).1,cp,λz=>cp (z ▸ k1),hk,dn,nd1,'o',o1,'o','o',λM1 kvs1 C1 r1 ks1 hk1 dn1 F1=>('k',?_));have kc:∀c,C c->M1[c]?=M[c]?:=λc hc=>ks1.at' c (λh=>cp (h ▸ hc)) (S.xc c hc).1;show(C,z,c2,d2,p,_,kvs1,rfl,ks1.W (λh=>cp (h ▸ k2)) k5,k6.keep (λ_ h=>h) kc,λc hc=>ng (S.xc c hc).1 ks1.len,cp,λz=>cp (z ▸ k2),hk1,dn1,nd2,ll,o2,'o','o',λM2 kvs2 C2 r2 ks2 hk2 dn2 F2=>(Z1 'd',(λh=>by cases h),Z1 (by change 4+2<=_;lia),?_));have ks:Ks (λx=>x=p\/x=q) M M2:=(ks1.trans ks2).mono λ_ _ h=> .inl h;have S2:NS C r p q all (ns++TD.nums y++TD.nums z) es1 M2:=S.up ks (kvs2,hk2,dn2) ((ks1.trans ks2).W (λh=>S.xn.1 h.symm) S.xf);rw[Ek (N:=N) (TD.nums z++TD.nums rst++w,by rw[hw];simp) o1] at F1;rw[Ek (N:=N) (TD.nums rst++w,by rw[hw];simp) o2] at F2;let(da,a1,a2):=F1.e;let(db,b1,b2):=F2.e;have l1:=ks1.len;have l2:=ks2.len;have kq:∀x,Lg M<=x->x<Lg M1->M2[x]?=M1[x]?:=λx h1 h2=>ks2.at' x (λh=>by lia) h2;have lr1:=Z9 (Z0 a1);have lr2:=Z9 (Z0 b1);have n1:=F1.n.2;have n2:=F2.n.2;subst hX;show N8 (ih 'o') (lp,Z9 (Z0 S.xf)) S2 ks (rt.keep (λ_ h=>h) (S.kc ks)) (C1:=λc=>C1 c\/C2 c\/c=r1\/c=r2) (t':= .cho a.a a.s a.b (ofF (TD.ren N.idxOf y)) (ofF (TD.ren N.idxOf z))) (r1,r2,da,db,rfl,.inr (.inr (.inl rfl)),.inr (.inr (.inr rfl)),by rw[Z6 (kq r1 n1 lr1)];show a1,(a2.keep (λ_ h=>h) λc hc=>kq c (F1.c c hc).1 (F1.c c hc).2).up λ_ h=> .inl h,b1,b2.up λ_ h=> .inr (.inl h)) (λc hc=>?_) 'o' (w,by rw[hw];simp) (λm hm=>Bs _ (Bs _ (ot m (hm.imp (λh=> .inr (.inr h)) λh=> .inr (.inr h))))) 'o' λM' e2 C2 d3 d4 d5 k S' r' hc=>fin M' _ C2 _ _ _ k ?_ r' hc
  .rcases hc with h|h|h|h
   .have:=F1.c c h;lia
   .have:=F2.c c h;lia
   .lia
   .lia
  .simp only[TD.nums];rw[An,An] at S';rw[An];show S'
 | rd k b rst _ ih=>intro hy ns es es1 M R d3 d4 d5 S rt hb hz ot hd fin;let(x,e,rfl,(c1,d1,rfl,k1,k2,k3),rt):=rt;erw[mny] at hb hy;erw[dp] at hd;let(w,hw):=hz;erw[TD.nums] at hw;let(kvs,hk,dn):=S.xd;show(Z0 S.xr,?_);rw[tg_one];erw[if_true];generalize hX:forD (.lst r) all [3] (tss (K,Γ,G) noX Zb) e R=NX;delta Zb;rfl';erw[g];rw[nb (not_not_intro trivial)];subst hX;show .inr (kvs,hk,.inr (.inl (kvs,_,hk,rfl,Za (by have:=dn.1;have:=congrArg Lg hw;erw[Ac] at this;lia),Z41 (w:=true) (ih 'o') nd hN S hk dn k1 k2 k3 rt 'o' 'o' hw (λm hm=>if e:m=k then by simp[e] else Bs _ (ot m (hm.imp (λh=> .inl (e,h)) λh=> .inl (e,h)))) (λm hm=>ot m (hm.imp .inr .inr)) 'o' 'o' λM' e2 C2 d3 d4 d5 k S' r' hc=>fin M' _ C2 _ _ _ k S' r' hc)))
 | pt k b rst _ ih=>intro hy ns es es1 M R d3 d4 d5 S rt hb hz ot hd fin;let(x,e,rfl,(c1,d1,rfl,k1,k2,k3),rt):=rt;erw[mny] at hb hy;erw[dp] at hd;let(w,hw):=hz;erw[TD.nums] at hw;let(kvs,hk,dn):=S.xd;show(Z0 S.xr,?_);rw[tg_one];erw[Bool.false_eq_true,if_false];generalize hX:forD (.lst r) all [3] (tss (K,Γ,G) noX Zb) e R=NX;delta Zb;rfl';erw[g];subst hX;show .inr (kvs,hk,.inr (.inl (kvs,_,hk,rfl,Za (by have:=dn.1;have:=congrArg Lg hw;erw[Ac] at this;lia),Z41 (w:=false) (ih 'o') nd hN S hk dn k1 k2 k3 rt 'o' 'o' hw (λm hm=>if e:m=k then by simp[e] else Bs _ (ot m (hm.imp (λh=> .inl (e,h)) .inl))) (λm hm=>ot m (hm.imp .inr .inr)) 'o' 'o' λM' e2 C2 d3 d4 d5 k S' r' hc=>fin M' _ C2 _ _ _ k S' r' hc)))
def Gu{Γ G}:Rd K Γ G (Fq 0) Tu Tv:=by rintro a M Q Z ⟨C,s,r,m,p,f,b,rfl,h,d,l,o,c,j,n,g,i,e,k,_⟩;lia
def E3{Γ G}{n:Nat}(g:Γ[37]?=some (Fq n)):Rd K Γ G (Fq (n+1)) Tu Tv:=by
 rintro l M Q Z ⟨C,s,r,k,p,m,f,rfl,u,y,w,O,i,v,N,D,H,B,X,F,q⟩;delta Tu Tv;rfl';have t:Kp M (M++[Cell.lst []]):=Ks.new M _;have U:=Wy v;have T:=Z9 (Z0 u);have W:(M++[Cell.lst []]).length=Lg M+1:=by simp
 have S:NS C r p (Lg M) k m [] (M++[Cell.lst []]):=(t.pW u,(f,G5 v,N),Z5 _ _ [],λc b=>by have:=w c b;show('o',λh=>O (h ▸ b),'o'),'o',i,'o');show(nj _,k,Z0 S.xr,?_);show Zx3 g D H s F m k [] _ _ _ _ _ S (y.keep (λ_ h=>h) λc b=>t.at' c (λz=>z) (w c b)) (by simp;lia) ([],by simp) B 'o' λP j R d3 d4 Y o x A e=>?_;delta S5;rfl';let(d,L,J):=x.xd;have V:=o.len;show q P d R (Lg M) (λa I E=>?_,'o') L J ((j,x.xf,A),λc b=>by have:=e c b;lia,λh=>by have:=e _ h;lia,na _);rw[o.at' a (λz=>z.elim I λz=>by lia) 'o'];show Y0 E
def Ym3(f:Nat->Nat)(s:FF):dp (TD.ren f s)=dp s:=by
 induction s with
 | nil=>rfl
 | _=>simp only[TD.ren,dp, *]
def Ya2(f:Nat->Nat)(s:FF):mny (TD.ren f s)=mny s:=by
 induction s with
 | nil=>rfl
 | _=>simp only[TD.ren,mny, *]
def Yc3(f:Nat->Nat)(s:FF):TD.acts (TD.ren f s)=TD.acts s:=by
 induction s with
 | nil=>rfl
 | _=>simp only[TD.ren,TD.acts, *]
def Yu9(f:Nat->Nat)(s:FF):nl (TD.ren f s)=nl s:=by ext nl;rw[<-Cq f (λx=>(f x.toNat:Nat)) (λn=>rfl) s,Al]
structure Fo(s:FF):Prop where
 k:TD.Wk s
 o:okF s
 z:nl s<=400
 d:dp s<60
 m:mny s<=1000
 u:(TD.nums s).length<=400
def Fo.ren{s:FF}(h:Fo s):Fo (TD.ren (TD.nums s).idxOf s):=
 (h.k.ren.1,λd a=>h.o d (by rw[Yc3] at a;show a),by rw[Yu9];show h.z,by rw[Ym3];show h.d,by rw[Ya2];show h.m,by rw[TD.nums_ren,Al];show h.u)
def B0{s:FF}(h:TD.Wk s):TD.Cl s:=(λn z=>((TD.hl_or _ n).1 z).resolve_left (h.lv n),λn z=>((TD.hl_or _ n).2 z).resolve_left (h.ag n))
def Q5:DSp:=λd M Q _=>∃(C:Nat->Prop) (s:FF) (r:Nat) (a:LD),d=[.ref r]/\Z2 M r=some a/\RTs C M (ofF s) a/\(∀c,C c->c<Lg M)/\Fo s/\∀b,Kp M b->Q (.bl true) b
def Jx{Γ G}(g15:Γ[15]?=some Zq)(gt:Γ[31]?=some (Vo 60))(ga:Γ[36]?=some (Xj 120))(gn:Γ[37]?=some (Fq 60)):Rd K Γ G Q5 Sq S7:=by
 rintro L M Q Z ⟨C,s,r,es,rfl,P,X,J,F,q⟩;delta Sq S7;rfl';erw[gn];have t:Kp M (M++[Cell.dct []]):=Ks.new M _;have lr:=Z9 (Z0 P);show(C,s,r,es,Lg M,[],[],rfl,t.pW P,X.keep (λ_ h=>h) (λc g=>t.at' c (λz=>z) (J c g)),λc g=>ng (J c g) t.len,λh=>by have:=J _ h;lia,'o',E2 _ _ [],(rfl,λk=>rfl),F.k.nu,by have:=F.u;show(TD.nums s).length<=1000;lia,(λm hm=>(hm.elim (F.k.lv m) (F.k.ag m)).elim),F.d,F.m,λb y0 E I w _ _ y=>?_);have U:=F.ren;replace y:Fm E b (M++[Cell.dct []]).length (ofF (TD.ren (TD.nums s).idxOf s)) I:=y;have j:TD.nums (TD.ren (TD.nums s).idxOf s)=Dn (TD.nums (TD.ren (TD.nums s).idxOf s)).length:=by rw[TD.nums_ren,TD.map_idx F.k.nu,List.length_range]
 generalize TD.ren (TD.nums s).idxOf s=u at U y j;have O:Kp M b:=(λa _ l=>(w.at' a (by change ¬a=Lg M;lia) (ng l t.len)).trans (t.at' a (λz=>z) l),nh t.len w.len);let(x,A,H):=y.e;have v:∀c,E c->c<Lg b:=λc g=>(y.c c g).2;have z0:=Z9 (Z0 A);rfl';erw[gt];have i:Kp b (b++[Cell.lst []]):=Ks.new b _;have mk:Ks (·=Lg b) b (b++[Cell.lst []]):=i.mono λ_ _ h=>h.elim;show(nj _,E,u,I,x,Lg b,[],rfl,i.pW A,H.keep (λ_ h=>h) (λc g=>i.at' c (λz=>z) (v c g)),λc g=>ng (v c g) i.len,λh=>by have:=v _ h;lia,'o',Z5 _ _ [],by have:=U.u;simp;lia,U.m,U.o,U.d,na _,λT R f _=>?_,λ_ R f=>?_)
 .have B:Kp b R:=(λa _ l=>(f.at' a (by change ¬a=Lg b;lia) (ng l i.len)).trans (i.at' a (λz=>z) l),nh i.len f.len);rfl';delta Vi;rfl';erw[g15,ga];have N:=U.k.td;have W:=H.keep (λ_ h=>h) (B.cl v);show(E,u,I,x,rfl,B.pW A,W,λc g=>ng (v c g) B.len,U.o,U.z,N.nu,(B0 N).l,(B0 N).a,λC4 M4 Y b4 x0 k4 D=>?_);replace D:Fm C4 M4 b4 (ofF (TD.tdd u)) Y:=D;rw[TD.tdd_fix T j (B0 U.k)] at D;let(w0,S,V):=D.e;have p:=B.trans k4;show(_,_,rfl,Yn9 (n:=59) S V (p.pW A) (H.keep (λ_ h=>h) (p.cl v)) (by have:=U.m;lia) (by have:=U.d;lia),?_);show q _ (O.trans p)
 .rfl';show q _ (O.trans (λa _ l=>(f.at' a (by change ¬a=Lg b;lia) (ng l i.len)).trans (i.at' a (λz=>z) l),nh i.len f.len))
def leav(n:Nat)(c:Int):FF:= .ch ("x",.nm "x","<",.no (c % 10 ^ 18)) (.lv n .nil) .nil .nil
def ddW(u:Int):Dl:=("x",.nm "x","+",.no u)
def Zp2(b:FF)(c:Int)(k:Nat):FF:=
 if mix c k % 4=0 then .ch ("x",.nm "x","=",.no (c % 10 ^ 18)) b (.act (ddW (mix c k)) .nil) (.act (ddW (mix c k)) .nil)
 else if mix c k % 4=1 then .act (ddW (mix c k)) (.rd (2 * k) (TD.app (leav (2 * k) c) b) .nil)
 else if mix c k % 4=2 then .rd (2 * k) (TD.app (leav (2 * k) c) (.pt (2 * k+1) (TD.app (leav (2 * k+1) (mix c k)) (TD.app b (.ag (2 * k) .nil))) .nil)) .nil
 else .pt (2 * k+1) (TD.app (leav (2 * k+1) c) b) (.act (ddW (mix c k)) .nil)
structure Nf(k:Nat)(s:FF):Prop where
 nu:(TD.nums s).Nodup
 lt:∀n∈TD.nums s,n<2 * k
 lv:∀n,¬TD.FL n s
 ag:∀n,¬TD.FA n s
 o:okF s
 z:nl s<=12 * k
 d:dp s<=2 * k+1
 m:mny s<=12 * k
 u:(TD.nums s).length<=2 * k
def G8(s t:FF):dp (TD.app s t)=max (dp s) (dp t):=by
 induction s with
 | nil=>simp[TD.app,dp]
 | act a r c=>show c
 | fin a r c=>show c
 | lv n r c=>show c
 | ag n r c=>show c
 | ch a y n r _ _ c=>erw[TD.app,dp,c,Nat.max_assoc]
 | rd k b r _ c=>erw[TD.app,dp,c,Nat.max_assoc]
 | pt k b r _ c=>erw[TD.app,dp,c,Nat.max_assoc]
def C9(s t:FF):mny (TD.app s t)=mny s+mny t:=by
 induction s with
 | nil=>simp[TD.app,mny]
 | _=>simp only[TD.app,mny, *];lia
def ok_x(s:Str)(a:Db (.str s)=true)(i:Int):(("x",.nm "x",s,.no i):Dl).ok:=(by change Db (.str "x")=true;decide+kernel,by change Db (.str "x")=true;decide+kernel,a,rfl)
def S8{s t:FF}(h:okF s)(g:okF t):okF (TD.app s t):=λd a=>by rw[TD.acts_app,Am] at a;show a.elim (h d) (g d)
def Z23(n:Nat)(c:Int):okF (leav n c):=λd a=>by replace a:d∈[(("x",.nm "x","<",.no (c % 10 ^ 18)):Dl)]:=a;cases Aq.mp a;show ok_x _ 'k' _
def Zv5{m n:Nat}(h:TD.FL m (leav n c)):m=n:=by
 rcases h with h|h|h
 .show h.resolve_right id
 .show h.elim
 .show h.elim
def Zs1{m n:Nat}(h:TD.FA m (leav n c)):False:=by rcases h with h|h|h<;>show h
def Zk4{s t:FF}(h:TD.FL m (TD.app s t)):TD.FL m s\/TD.FL m t:=(TD.F_app m s t).1 h
def Zg1{s t:FF}(h:TD.FA m (TD.app s t)):TD.FA m s\/TD.FA m t:=(TD.F_app m s t).2 h
def Nf.wrap{k:Nat}{s:FF}(h:Nf k s)(c:Int):Nf (k+1) (Zp2 s c k):=by
 have t:∀n,nl (leav n c)=3:=λn=>rfl;have g:∀n u,nl (leav n u)=3:=λn u=>rfl;have j:∀n u,TD.nums (leav n u)=[]:=λn u=>rfl;have q:∀n u,dp (leav n u)=1:=λn u=>rfl;have p:∀n u,mny (leav n u)=2:=λn u=>rfl;have v:=h.z;have a:=h.d;have x:=h.m;have w:=h.u;ext Zp2;generalize mix c k=u;split
 .refine(by simpa[TD.nums] using h.nu,λn b=>by have:=h.lt n (by simpa[TD.nums] using b);lia,λn z=>?_,λn z=>?_,λd a=>?_,by rw[R6,Vj,Zj];erw[TD.isNil,Bool.false_eq_true,if_false];lia,by erw[dp];lia,by erw[mny];lia,by erw[TD.nums,Au];lia)
  .rcases z with z|z|z
   .show h.lv n z
   .show z
   .show z
  .rcases z with z|z|z
   .show h.ag n z
   .show z
   .show z
  .simp only[TD.acts,Ab,Am,Ia,or_false] at a;rcases a with rfl|(a|rfl)|rfl
   .show ok_x _ 'k' _
   .show h.o d a
   .show ok_x _ 'k' _
   .show ok_x _ 'k' _
 split
 .have e:TD.nums (.act (ddW u) (.rd (2 * k) (TD.app (leav (2 * k) c) s) .nil):FF)=2 * k::TD.nums s:=by simp[TD.nums,TD.nums_app,j]
  show(by rw[e];show Ao.mpr (λz=>by have:=h.lt _ z;lia,h.nu),λn b=>?_,λn z=>?_,λn z=>?_,λd a=>?_,by rw[Vj,F8,Xx,g,Zj];lia,by erw[dp,G8,q];lia,by erw[mny,C9,p];lia,by rw[e,Af];lia)
  .rw[e] at b;rcases Ab.mp b with rfl|b
   .lia
   .have:=h.lt n b;lia
  .let(i,f):=(show(n≠2 * k/\TD.FL n _)\/TD.FL n (.nil:FF) from z).resolve_right id;show(Zk4 f).elim (λz=>i (Zv5 z)) (h.lv n)
  .let(i,f):=(show(n≠2 * k/\TD.FA n _)\/TD.FA n (.nil:FF) from z).resolve_right id;show(Zg1 f).elim Zs1 (h.ag n)
  .rcases Ab.mp a with rfl|a
   .show ok_x _ 'k' _
   .replace a:d∈TD.acts (TD.app (leav (2 * k) c) s)++[]:=a;rw[Au] at a;show S8 (Z23 _ _) h.o d a
 split
 .have e:TD.nums (.rd (2 * k) (TD.app (leav (2 * k) c) (.pt (2 * k+1) (TD.app (leav (2 * k+1) u) (TD.app s (.ag (2 * k) .nil))) .nil)) .nil:FF)=2 * k::(2 * k+1)::TD.nums s:=by simp[TD.nums,TD.nums_app,j]
  show(?_,λn b=>?_,λn z=>?_,λn z=>?_,λd a=>?_,by rw[F8,Xx,g,E6,Xx,g,Xx,Ca,Zj];lia,by erw[dp,G8,q];lia,by erw[mny,C9,p];lia,by rw[e,Af,Af];lia)
  .rw[e];show Ao.mpr (λz=>?_,Ao.mpr (λz=>by have:=h.lt _ z;lia,h.nu));rcases Ab.mp z with z|z
   .lia
   .have:=h.lt _ z;lia
  .rw[e] at b;rcases Ab.mp b with rfl|b
   .lia
   .rcases Ab.mp b with rfl|b
    .lia
    .have:=h.lt n b;lia
  .let(i,f):=(show(n≠2 * k/\TD.FL n _)\/TD.FL n (.nil:FF) from z).resolve_right id;show(Zk4 f).elim (λz=>i (Zv5 z)) λz=>?_;let(r,l):=(show(n≠2 * k+1/\TD.FL n _)\/TD.FL n (.nil:FF) from z).resolve_right id;show(Zk4 l).elim (λz=>r (Zv5 z)) λz=>(Zk4 z).elim (h.lv n) id
  .let(i,f):=(show(n≠2 * k/\TD.FA n _)\/TD.FA n (.nil:FF) from z).resolve_right id;show(Zg1 f).elim Zs1 λz=>?_;have l:=(show TD.FA n (TD.app _ _)\/TD.FA n (.nil:FF) from z).resolve_right id;show(Zg1 l).elim Zs1 λz=>(Zg1 z).elim (h.ag n) λz=>i (z.resolve_right id)
  .replace a:d∈TD.acts (TD.app (leav (2 * k) c) (.pt (2 * k+1) (TD.app (leav (2 * k+1) u) (TD.app s (.ag (2 * k) .nil))) .nil))++[]:=a;rw[Au] at a;show S8 (Z23 _ _) (λd a=>?_) d a;replace a:d∈TD.acts (TD.app (leav (2 * k+1) u) (TD.app s (.ag (2 * k) .nil)))++[]:=a;rw[Au] at a;show S8 (Z23 _ _) (S8 h.o λd a=>by cases a) d a
 .have e:TD.nums (.pt (2 * k+1) (TD.app (leav (2 * k+1) c) s) (.act (ddW u) .nil):FF)=(2 * k+1)::TD.nums s:=by simp[TD.nums,TD.nums_app,j]
  show(by rw[e];show Ao.mpr (λz=>by have:=h.lt _ z;lia,h.nu),λn b=>?_,λn z=>?_,λn z=>?_,λd a=>?_,by rw[E6,Xx,g,Vj,Zj];lia,by erw[dp,G8,q];lia,by erw[mny,C9,p];lia,by rw[e,Af];lia)
  .rw[e] at b;rcases Ab.mp b with rfl|b
   .lia
   .have:=h.lt n b;lia
  .let(i,f):=(show(n≠2 * k+1/\TD.FL n _)\/TD.FL n (.act (ddW u) .nil:FF) from z).resolve_right id;show(Zk4 f).elim (λz=>i (Zv5 z)) (h.lv n)
  .have f:=(show TD.FA n (TD.app _ _)\/TD.FA n (.act (ddW u) .nil:FF) from z).resolve_right id;show(Zg1 f).elim Zs1 (h.ag n)
  .replace a:d∈TD.acts (TD.app (leav (2 * k+1) c) s)++[ddW u]:=a;rcases Am.mp a with a|a
   .show S8 (Z23 _ _) h.o d a
   .cases Aq.mp a;show ok_x _ 'k' _
def Nf.fo{k:Nat}{s:FF}(h:Nf k s)(a:k<=20):Fo s:=((h.nu,h.lv,h.ag),h.o,by have:=h.z;lia,by have:=h.d;lia,by have:=h.m;lia,by have:=h.u;lia)
def nf0:Nf 0 .nil:=(Io,(λn h=>by cases h),λn h=>h,λn h=>h,(λd h=>by cases h),na _,'d',na _,na _)
def Zg3(a:List Int):Nat->FF
 | 0=> .nil
 | k+1=>Zp2 (Zg3 a k) (a.getD k 0) k
def Zp0(a:List Int)(k:Nat):Nf k (Zg3 a k):=by
 induction k with
 | zero=>show nf0
 | succ k b=>show b.wrap _
def HL(M:Z3)(a:LD)(s:FF):Prop:=∃C:Nat->Prop,RTs C M (ofF s) a/\∀x,C x->x<Lg M
def HF(M:Z3)(r:Nat)(s:FF):Prop:=∃a,Z2 M r=some a/\HL M a s
def HL.up{b:LD}{s:FF}(h:HL M b s)(k:Kp M M'):HL M' b s:=by let(C,d,a):=h;show(C,d.keep (λ_ z=>z) (k.cl a),λx c=>ng (a x c) k.len)
def HF.up{s:FF}(h:HF M r s)(k:Kp M M'):HF M' r s:=by let(c,b,a):=h;show(c,k.pW b,a.up k)
def HL.app{a es:LD}{s t:FF}(h:HL M a s)(g:HL M es t):HL M (a++es) (TD.app s t):=by let(C,d,c):=h;let(e,g1,g2):=g;show(λx=>C x\/e x,by rw[Zh0];show(d.up λ_ z=> .inl z).app (g1.up λ_ z=> .inr z),λx b=>b.elim (c x) (g2 x))
def HL.nil:HL M [] .nil:=(λ_=>False,rfl,λx h=>h.elim)
def HL.act(d:Dl):HL M [.tup [.str "sum",.str d.x,d.a.d,.str d.s,d.b.d]] (.act d .nil):=(λ_=>False,(_,_,rfl,(rfl,rfl,rfl),rfl),λx h=>h.elim)
def HL.lv(n:Nat):HL M [.tup [.str "leave",.int n]] (.lv n .nil):=(λ_=>False,(_,_,rfl,(rfl,rfl,rfl),rfl),λx h=>h.elim)
def HL.ag(n:Nat):HL M [.tup [.str "again",.int n]] (.ag n .nil):=(λ_=>False,(_,_,rfl,(rfl,rfl,rfl),rfl),λx h=>h.elim)
def HL.ch{y n:FF}{p q:Nat}(d:Dl)(f:HF M p y)(i:HF M q n):HL M [.tup [.str "choice",d.a.d,.str d.s,d.b.d,.ref p,.ref q]] (.ch d y n .nil):=by
 let(m,e,C,r,o):=f;let(j,c,t,l,k):=i;have v:=Z9 (Z0 e);have u:=Z9 (Z0 c);show(λx=>C x\/t x\/x=p\/x=q,(_,_,rfl,(p,q,m,j,rfl,.inr (.inr (.inl rfl)),.inr (.inr (.inr rfl)),e,r.up λ_ z=> .inl z,c,l.up λ_ z=> .inr (.inl z)),rfl),λx g=>?_);rcases g with h|h|h|h
 .show o x h
 .show k x h
 .lia
 .lia
def HL.rd{b:FF}{p:Nat}(k:Nat)(h:HF M p b):HL M [.tup [.str "round",.int k,.ref p]] (.rd k b .nil):=by let(d,a,C,f,e):=h;have g:=Z9 (Z0 a);show(λx=>C x\/x=p,(_,_,rfl,(p,d,rfl,.inr rfl,a,f.up λ_ z=> .inl z),rfl),λx c=>c.elim (e x) λh=>by lia)
def HL.pt{b:FF}{p:Nat}(k:Nat)(h:HF M p b):HL M [.tup [.str "part",.int k,.ref p]] (.pt k b .nil):=by let(d,a,C,f,e):=h;have g:=Z9 (Z0 a);show(λx=>C x\/x=p,(_,_,rfl,(p,d,rfl,.inr rfl,a,f.up λ_ z=> .inl z),rfl),λx c=>c.elim (e x) λh=>by lia)
def HL.new{a:LD}{s:FF}(h:HL M a s):HF (M++[.lst a]) (Lg M) s:=(a,Z5 _ _ [],h.up (Ks.new M _))
def HF.len{s:FF}{a:LD}(h:Z2 M r=some a)(f:HF M r s):Lg a<=mny s/\HL M a s:=by let(e,c,C,b,d):=f;rw[h] at c;cases c;have:=b.len.trans (Xg s);have:=Vm s;show('o',C,b,d)
def Wb:DSp:=λb M Q _=>∃(n:Nat) (c:Int),b=[.int n,.int c]/\∀a d,Kp M a->HL a [d] (leav n c)->Q d a
def Xc:DSp:=λd M Q _=>∃(s:FF) (r:Nat) (c:Int) (k:Nat),d=[.ref r,.int c,.int k]/\HF M r s/\mny s<=1000/\k<=100/\∀a b,Kp M a->HF a b (Zp2 s c k)->Q (.ref b) a
def Z83{Γ G}:Rd K Γ G Wb N0 N3:=by rintro a M Q Z ⟨n,c,rfl,q⟩;delta N0 N3;rfl';show(Zp3 'd','d',Z1 'd',Z1 'd',nj _,Z1 'd',?_);rw[qm 'd'];show q _ _ ((Ks.new M _).app _) (HL.ch ("x",.nm "x","<",.no (c % 10 ^ 18)) ((HL.lv n).new.up (Ks.new _ _)) HL.nil.new)
def Z63{Γ G}(C:Γ[17]?=some Yq)(n:Γ[38]?=some Wb):Rd K Γ G Xc Nm Ou:=by
 rintro o M Q Z ⟨s,r,c,k,rfl,j,H,I,q⟩;delta Nm Ou;rfl';erw[C];show(c,k,rfl,'o','o',?_);ext q Zp2;generalize mix c k=u at q;rfl';let(f,h,i):=id j;have F:=(HF.len h j).1;have mk:IntMulOk 2 k:=mulL 'd' 'o';have A:(2 * (k:Int))=((2 * k:Nat):Int):='o';have z:(2 * (k:Int)+1)=((2 * k+1:Nat):Int):='o';show(Z1 'd',?_);rw[qm 'd'];by_cases y:u % 4=0
 .rw[nc y] at q |-;show(Zp3 'd','d',Z1 'd',Z1 'd',Z1 'd',?_);rw[qm 'd'];have a:Kp M (M++[Cell.lst [.tup [.str "sum",.str "x",.str "x",.str "+",.int u]]]):=Ks.new M _;show q _ _ (a.app _) ((HL.ch ("x",.nm "x","=",.no (c % 10 ^ 18)) (j.up a) (HL.act (ddW u)).new).app (HL.act (ddW u))).new
 rw[nb y] at q |-;delta Qc;rfl';rw[qm 'd'];by_cases w:u % 4=1
 .rw[nc w] at q |-;erw[n];rw[A];show(mk,mk,_,_,rfl,λe d a g=>(Z1 'd',[d],f,Z5 _ _ [],Z4 (a.pW h),Z1 (by change 1+Lg f<=_;lia),Z1 'd',Z1 'd',?_));have b:Kp e (e++[Cell.lst [d]]):=Ks.new _ _;have m:=((g.app (i.up a)).up b).new;show q _ _ ((a.trans b).trans ((Ks.new _ _).app _)) ((HL.act (ddW u)).app (HL.rd (2 * k) m)).new
 rw[nb w] at q |-;delta Qe;rfl';rw[qm 'd'];by_cases v:u % 4=2
 .rw[nc v] at q |-;erw[n];rw[z,A];show(mk,_,_,rfl,λe d a g=>(Z1 'd',[d],f,Z5 _ _ [],Z4 (a.pW h),Z1 (by change 1+Lg f<=_;lia),mk,Z1 'd',Z1 'd',_,_,Z4 (Z5 _ _ []),Z5 _ _ [],Z1 (by simp;lia),mk,mk,_,_,rfl,λE J b l=>?_));have p:Kp e (e++[Cell.lst [d]]++[Cell.lst ([d]++f)]++[Cell.lst [.tup [.str "again",.int (2 * k:Nat)]]]):=((Ks.new _ _).app _).app _;have t:=(((g.app (i.up a)).app (HL.ag (2 * k))).up p).new.up b;have B:Kp M E:=(a.trans (p.app _)).trans b;have D:TD.app (TD.app (leav (2 * k+1) u) s) (.ag (2 * k) .nil)=TD.app (leav (2 * k+1) u) (TD.app s (.ag (2 * k) .nil)):=rfl;rw[D] at t;show(mk,Z1 'd',Z1 'd',Z1 'd',Z1 'd',q _ _ (B.trans ((Ks.new _ _).app _)) (HL.rd (2 * k) (l.app (HL.pt (2 * k+1) t)).new).new)
 rw[nb v] at q |-;delta Ru;rfl';erw[n];rw[z];show(mk,mk,_,_,rfl,λe d a g=>(Z1 'd',[d],f,Z5 _ _ [],Z4 (a.pW h),Z1 (by change 1+Lg f<=_;lia),Z1 'd',Z1 'd',?_));have b:Kp e (e++[Cell.lst [d]]):=Ks.new _ _;have m:=((g.app (i.up a)).up b).new;show q _ _ ((a.trans b).trans ((Ks.new _ _).app _)) ((HL.pt (2 * k+1) m).app (HL.act (ddW u))).new
def Lk(b:Nat->Prop)(M:Z3):Nat->Nat->Prop
 | 0,_=>False
 | n+1,x=>b x/\∃e,Z2 M x=some e/\∀d∈e,∃a,d= .tup a/\∀p∈a,(∃z,p= .str z)\/(∃i,p= .int i)\/∃c,p= .ref c/\Lk b M n c
def Lk.up{b:Nat->Prop}:∀{n m x:Nat},Lk b M n x->n<=m->Lk b M m x
 | 0,_,_,h,_=>h.elim
 | n+1,0,_,_,l=>absurd l (Nat.not_succ_le_zero _)
 | n+1,m+1,x,(o,q,k,j),l=>(o,q,k,λd g=>by
  let(a,e,i):=j d g;show(a,e,λp f=>(i p f).imp id (.imp id λzz=>by let(c,e,h):=zz;show(c,e,h.up (Nat.le_of_succ_le_succ l)))))
def wtP(f:Nat->Nat):D->Nat
 | .ref c=>f c
 | _=>0
def wtD(f:Nat->Nat):D->Nat
 | .tup a=>(a.map (wtP f)).sum
 | _=>0
def wt(M:Z3):Nat->Nat->Nat
 | 0,_=>0
 | n+1,x=>1+(((Z2 M x).getD []).map (wtD (wt M n))).sum
def Bd2(M:Z3)(B:Nat):Nat->Nat->Prop
 | 0,_=>True
 | n+1,x=>∀a,Z2 M x=some a->(Lg a)<=B/\∀d∈a,∀b,d= .tup b->∀c,D.ref c∈b->Bd2 M B n c
def Zl8{a:Type}{f g:a->Nat}:∀(l:List a),(∀x∈l,f x<=g x)->(l.map f).sum<=(l.map g).sum
 | [],_=>na _
 | x::l,h=>by have:=Zl8 l λy b=>h y (Ae _ b);have:=h x Ad;erw[Aj,Iw];lia
def Z15{a:Type}{f:a->Nat}{l:List a}{i:Nat}{x:a}(h:l[i]?=some x):((l.take i).map f).sum+f x=((l.take (i+1)).map f).sum/\((l.take (i+1)).map f).sum<=(l.map f).sum:=by show(by rw[Kt,h];simp,?_);have:=congrArg (λl=>(List.map f l).sum) (List.take_append_drop (i+1) l);erw[Dc,List.sum_append] at this;lia
def Yq2:∀{n m x:Nat},n<=m->wt M n x<=wt M m x
 | 0,_,_,_=>nj _
 | n+1,0,_,l=>absurd l (Nat.not_succ_le_zero _)
 | n+1,m+1,x,l=>by
  erw[wt];show Nat.add_le_add_left (Zl8 _ λd _=>?_) 1;cases d with
  | tup a=>
   show Zl8 a λp _=>?_;cases p with
   | ref c=>show Yq2 (Nat.le_of_succ_le_succ l)
   | _=>show na _
  | _=>show na _
def Bd2.dn:∀{n m x:Nat},Bd2 M B m x->n<=m->Bd2 M B n x
 | 0,_,_,_,_=>trivial
 | n+1,0,_,_,l=>absurd l (Nat.not_succ_le_zero _)
 | n+1,m+1,x,h,l=>λa e=>((h a e).1,λd f b i c g=>((h a e).2 d f b i c g).dn (Nat.le_of_succ_le_succ l))
def Bd2.up{B b:Nat}(l:B<=b):∀{n x:Nat},Bd2 M B n x->Bd2 M b n x
 | 0,_,_=>trivial
 | n+1,x,h=>λa e=>(nh (h a e).1 l,λd g f j c i=>((h a e).2 d g f j c i).up l)
structure Pr2(b:Nat->Prop)(M M':Z3)(k v:Nat):Prop where
 at':∀x,¬Lk b M k x->M'[x]?=M[x]?
 len:Lg M<=Lg M'
 iff:∀m x,Lk b M' m x↔Lk b M m x
 gr:∀m x B,Bd2 M B m x->Bd2 M' (B+v) m x
 wt:∀m x,wt M' m x=wt M m x
def Pr2.refl{b:Nat->Prop}{k:Nat}(M:Z3):Pr2 b M M k 0:=(λ_ _=>rfl,na _,λ_ _=>Lr,λ_ _ _ h=>h,λ_ _=>rfl)
def Pr2.trans{b:Nat->Prop}{k v u:Nat}(h:Pr2 b M M' k v)(g:Pr2 b M' c k u):Pr2 b M c k (v+u):=
 (λx a=>(g.at' x λz=>a ((h.iff k x).mp z)).trans (h.at' x a),nh h.len g.len,λm x=>(g.iff m x).trans (h.iff m x),λm x B z=>by rw[<-Nat.add_assoc];show g.gr m x _ (h.gr m x B z),λm x=>(g.wt m x).trans (h.wt m x))
def Pr2.up{b:Nat->Prop}{k j v u:Nat}(h:Pr2 b M M' k v)(l:k<=j)(c:v<=u):Pr2 b M M' j u:=(λx a=>h.at' x λz=>a (z.up l),h.len,h.iff,λm x B z=>(h.gr m x B z).up 'o',h.wt)
def Yg1{z:Str}(n:Z2 M r=some es):∀m x B,Bd2 M B m x->Bd2 (M.set r (.lst (es++[.tup [.str z]]))) (B+1) m x:=by
 have o:=Z9 (Z0 n);intro m;induction m with
 | zero=>intro x B _;trivial
 | succ m l=>
  intro x B h k g;by_cases e:x=r
  .subst e;rw[Zd o] at g;cases g;let(p,j):=h es n;show(by rw[Ac,Dg];lia,λd a i f c b=>?_);rcases Am.mp a with a|a
   .show l c B (j d a i f c b)
   .cases Aq.mp a;cases f;cases Aq.mp b
  .rw[Z8 (Av e)] at g;let(p,j):=h k g;show('o',λd a i f c b=>l c B (j d a i f c b))
def Yr9{z:Str}(a:Z2 M r=some es):∀m x,wt (M.set r (.lst (es++[.tup [.str z]]))) m x=wt M m x:=by
 have b:=Z9 (Z0 a);intro m;induction m with
 | zero=>intro x;rfl
 | succ m c=>
  have d:wt (M.set r (.lst (es++[.tup [.str z]]))) m=wt M m:=funext c;intro x;erw[wt,d];by_cases e:x=r
  .subst e;rw[Zd b,a];simp[wtD,wtP]
  .rw[Z8 (Av e)]
def Yn5{b:Nat->Prop}{z:Str}(j:Z2 M r=some es):∀m x,Lk b (M.set r (.lst (es++[.tup [.str z]]))) m x↔Lk b M m x:=by
 have n:=Z9 (Z0 j);intro m;induction m with
 | zero=>intro x;show Lr
 | succ m o=>
  have h:∀g:LD,(∀p∈g,(∃z,p= .str z)\/(∃i,p= .int i)\/∃c,p= .ref c/\Lk b (M.set r (.lst (es++[.tup [.str z]]))) m c)↔∀p∈g,(∃z,p= .str z)\/(∃i,p= .int i)\/∃c,p= .ref c/\Lk b M m c:=by intro g;erw[o]
  intro x;erw[Lk,h];by_cases e:x=r
  .subst e;rw[Zd n];show and_congr_right λ_=>(λ(l,f,k)=>?_,λ(l,f,k)=>?_)
   .cases f;show(es,j,λd a=>k d (Bs _ a))
   .rw[j] at f;cases f;show(_,rfl,λd a=>?_);rcases Am.mp a with a|a
    .show k d a
    .cases Aq.mp a;show(_,rfl,λp q=>by cases Aq.mp q;show .inl (_,rfl))
  .rw[Z8 (Av e)]
def Ob(n:Nat):DSp:=λc M Q _=>∃(b:Nat->Prop) (r k B w:Nat),c=[.ref r]/\Lk b M k r/\Bd2 M B k r/\wt M k r<=w/\B+w<=100000/\k<=n/\∀a,Pr2 b M a k w->Q .non a
def Yt9{b:Nat->Prop}:∀{k:Nat},Lk b M k r->∃j,j+1<=k/\Lk b M (j+1) r/\¬Lk b M j r:=by
 intro k;induction k with
 | zero=>intro h;show h.elim
 | succ k a=>
  intro h;by_cases g:Lk b M k r
  .let(j,e,d,c):=a g;show(j,'o',d,c)
  .exact(k,na _,h,g)
def Z75{Γ G}:Rd K Γ G (Ob 0) Qv Qw:=by rintro a M Q Z ⟨b,r,k,B,w,rfl,h,_,_,_,c,_⟩;obtain rfl:k=0:='o';show h.elim
def Za6{Γ G}{n:Nat}(g:Γ[41]?=some (Ob n)):Rd K Γ G (Ob (n+1)) Qv Qw:=by
 rintro X M Q Z ⟨b,r,k,B,w,rfl,h,W,S,hs,hk,q⟩;let(j,U,I,hn):=Yt9 h;replace W:=W.dn U;replace S:=nh (Yq2 U) S;let(hb,a,P,he):=id I;let(z0,V):=W a P;erw[wt,P,Option.getD_some] at S;delta Qv Qw;rfl';show(_,Z0 P,?_);have H:∀{E v},Pr2 b M E j v->Z2 E r=some a:=λh=>by rw[Z6 (h.at' r hn)];show P
 show Wg (λi o E=>∃R l v,o=[↑r,R,l]/\v<=((a.take i).map (wtD (wt M j))).sum/\Pr2 b M E j v) (none,none,0,rfl,nj _,Pr2.refl M) ?_ ?_ ?_
 .rintro i o E _ ⟨R,l,v,rfl,_,p⟩;show Z0 (H p)
 .rintro i d o E C J ⟨R,l,v,rfl,hv,p⟩ hC;let(Y,t2):=Z15 (f:=wtD (wt M j)) J;have dm:=Df J;let(y,rfl,O):=he d dm;replace Y:((a.take i).map (wtD (wt M j))).sum+(y.map (wtP (wt M j))).sum=((a.take (i+1)).map (wtD (wt M j))).sum:=Y;rw[tg_one];delta Pf;rfl';show Wg (own:= .no) (xs:=y) (λi o F=>∃l u,o=[↑r,some (.tup y),l]/\u<=v+((y.take i).map (wtP (wt M j))).sum/\Pr2 b M F j u) (l,v,rfl,Nat.le_add_right _ _,p) ?_ ?_ ?_
  .rintro i o F _ ⟨l,u,rfl,_⟩;trivial
  .rintro i d o F C2 J ⟨l,u,rfl,hu,s⟩ D;let(s1,s2):=Z15 (f:=wtP (wt M j)) J;have N:=Df J;rw[tg_one];delta O3;rcases O d N with⟨z,rfl⟩|⟨z,rfl⟩|⟨c,rfl,hc⟩
   .rfl';show D _ _ (_,u,rfl,'o',s)
   .rfl';show D _ _ (_,u,rfl,'o',s)
   .have A:=(s.iff j c).mpr hc;replace s1:((y.take i).map (wtP (wt M j))).sum+wt M j c=((y.take (i+1)).map (wtP (wt M j))).sum:=s1;obtain⟨y0,T⟩:∃a,Z2 F c=some a:=by
     cases j with
     | zero=>show A.elim
     | succ j=>let(_,a,h,_):=A;show(a,h)
    have i1:∀{t:Ty} {B:Bool->Prop},isD K F (.ref c) (.ty (Yo t)) B=B (tyLst t):=fun{t B}=>Nl T;rfl';erw[i1];rfl';erw[g];show(b,c,j,B+u,wt M j c,rfl,A,s.gr j c B (V _ dm y rfl c N),Nat.le_of_eq (s.wt j c),'o','o',λM3 p3=>D _ _ (_,_,rfl,'o',s.trans p3))
  .rintro o F ⟨l,u,rfl,hu,s⟩;rw[Ik] at hu;show hC _ _ (_,_,u,rfl,'o',s)
 .rintro o E ⟨R,l,v,rfl,hv,p⟩;rw[Ik] at hv;have L:=H p;delta Po;rfl';show(Ze (Z0 L),Z1 'd',a,L,Za 'o',?_);show q _ (Pr2.up (k:=j+1) (v:=v+1) (λx O=>?_,by rw[Dm];show p.len,λm x=>(Yn5 L m x).trans (p.iff m x),λm x B z=>by rw[<-Nat.add_assoc];show Yg1 L m x _ (p.gr m x B z),λm x=>(Yr9 L m x).trans (p.wt m x)) U 'o');have ne:r≠x:=λe=>O (by rw[<-e];show I);rw[Dq ne];show p.at' x λz=>O (z.up (md j))
def Y35(w:Bool)(k:Nat)(s:FF):dp (TD.cut w k s)<=dp s:=by
 induction s with
 | nil=>show na _
 | act a r c=>show c
 | fin a r c=>show c
 | lv n r c=>erw[TD.cut];split;show nj _;show c
 | ag n r c=>erw[TD.cut];split;show nj _;show c
 | ch a y n r d e c=>erw[TD.cut];split<;>erw[dp]<;>lia
 | rd m b r _ c=>erw[TD.cut,dp];lia
 | pt m b r _ c=>erw[TD.cut,dp];lia
def Ym9(k m:Nat)(s:FF):dp (TD.sub k m s)=dp s:=by
 induction s with
 | nil=>rfl
 | _=>simp only[TD.sub,dp, *]
def Yq0(k:Nat)(b:FF):dp (TD.one k b)<=dp b+1:=by
 ext TD.one;split
 .rw[Ym9];show md _
 .simp only[dp];lia
def Zk7(k:Nat)(b:FF)(g:Bool):dp (TD.clsP k b g).1<=dp b+1:=by have:=Y35 true k b;have:=Yq0 k (TD.cut true k b);ext TD.clsP;split<;>dsimp only<;>lia
def Y51(k:Nat)(b:FF)(g:Bool):dp (TD.clsR k b g).1<=dp b+1:=by
 have:=Y35 false k b;ext TD.clsR;split
 .simp only[dp];lia
 .show Zk7 k b false
def Yw0(s:FF):dp (TD.td s).1<=dp s:=by
 induction s with
 | nil=>show na _
 | act a r c=>show c
 | fin a r c=>show nj _
 | lv n r c=>show nj _
 | ag n r c=>show nj _
 | ch a y n r e f c=>erw[TD.td];split<;>erw[dp]<;>lia
 | rd k b r d c=>have:=Y51 k (TD.td b).1 (TD.td b).2;erw[TD.td];split<;>erw[G8,dp]<;>lia
 | pt k b r d c=>have:=Zk7 k (TD.td b).1 (TD.td b).2;erw[TD.td];split<;>erw[G8,dp]<;>lia
def Y42(s:FF):mny s<=nl s:=by
 induction s with
 | nil=>show nj _
 | act a r c=>rw[Vj];erw[mny];lia
 | fin a r c=>rw[Sj];erw[mny];lia
 | lv n r c=>rw[Z72];erw[mny];lia
 | ag n r c=>rw[Ca];erw[mny];lia
 | ch a y n r e f c=>
  rw[R6];erw[mny];split
  .rename_i z;rw[TD.isNil_eq z];erw[mny];lia
  .lia
 | rd k b r d c=>rw[F8];erw[mny];lia
 | pt k b r d c=>rw[E6];erw[mny];lia
def Bw(s:FF):(TD.nums s).length<=mny s:=by
 induction s with
 | nil=>show nj _
 | _=>erw[TD.nums,mny,Af,Ac,Dy] at *;lia
def Yv4(s:FF):dp s=ht s:=by
 induction s with
 | nil=>rfl
 | _=>simp only[dp,ht,Nat.add_comm 1, *]
def Fw.fo{s:FF}(h:Fw s):Fo s:=by have d:=h.z;have c:=Y42 s;have b:=Bw s;have a:=h.h;show(h.k,h.o,h.z,by rw[Yv4];lia,'o','o')
def Fo.td{s:FF}(h:Fo s):Fo (TD.tdd s):=by have c:=nh (Zc2 s) h.z;have f:=Y42 (TD.td s).1;have e:=Bw (TD.td s).1;have b:=Nat.lt_of_le_of_lt (Yw0 s) h.d;show Fo.ren (h.k.td,λd a=>h.o d ((TD.acts_td s).subset a),c,b,'o','o')
def Fo.tidy{s:FF}(h:Fo s):TD.Tdy (TD.tdd s)/\TD.nums (TD.tdd s)=Dn (TD.nums (TD.tdd s)).length:=TD.tdd_Td h.k.nu (B0 h.k.td)
def Fo.fix{s:FF}(h:Fo s):TD.tdd (TD.tdd s)=TD.tdd s:=TD.tdd_fix h.tidy.1 h.tidy.2 (B0 h.td.k)
def Zj7{s:FF}(h:RTs C M (ofF s) es){d:D}(hd:d∈es):∃xs,d= .tup xs/\∀p∈xs,(∃z,p= .str z)\/(∃i,p= .int i)\/∃c u a,p= .ref c/\C c/\Z2 M c=some a/\RTs C M (ofF u) a/\dp u<dp s/\mny u<=mny s:=by
 let(i,v):=List.getElem?_of_mem hd;let(t,xs,m,B,l,e,k):=O7 s h v;have b:=Df m;show(xs,e,λp n=>?_);let(j,r):=List.getElem?_of_mem n;let(o,q,f):=k.at r;cases o with
 | none=>show f.imp id .inl
 | some u=>let(c,a,A,y,x,w):=f;have g:=Df q;show .inr (.inr (c,u,a,A,y,x,w,Vl b g,Zj0 b g))
def Yt8{b C:Nat->Prop}(m:∀c,C c->b c):∀(n:Nat) {s:FF} {r:Nat} {es:LD},Z2 M r=some es->RTs C M (ofF s) es->b r->dp s<n->Lk b M n r:=by
 intro n;induction n with
 | zero=>intro s r es _ _ _ h;lia
 | succ n g=>intro s r es j f l x;show(l,es,j,λd h=>?_);let(a,e,i):=Zj7 f h;show(a,e,λp k=>(i p k).imp id (.imp id λzz=>by let(c,u,o,w,v,t,q,y,_):=zz;show(c,w,g t q (m c v) 'o')))
def Yu1:∀(n:Nat) {s:FF} {r:Nat} {es:LD},Z2 M r=some es->RTs C M (ofF s) es->mny s<=B->Bd2 M B n r:=by
 intro n;induction n with
 | zero=>intro s r es _ _ _;trivial
 | succ n i=>
  intro s r es k f w a g;rw[k] at g;cases g;have:=f.len.trans (Xg s);have:=Vm s;show('o',λd l v e c m=>?_);let(t,b,j):=Zj7 f l;rw[e] at b;cases b;rcases j _ m with⟨z,h⟩|⟨z,h⟩|⟨y,u,a,q,b,p,o,_,x⟩
  .cases h
  .cases h
  .cases q;show i p o 'o'
def Yt5(s:FF):∀(n:Nat) {es:LD},RTs C M (ofF s) es->(es.map (wtD (wt M n))).sum<=2 * mny s:=by
 have q:∀{f:Nat->Nat} (o:Opd),wtP f o.d=0:=λo=>by cases o<;>rfl
 have i:∀(s:FF) (n:Nat) {c:Nat} {es:LD},(∀(n:Nat) {es:LD},RTs C M (ofF s) es->(es.map (wtD (wt M n))).sum<=2 * mny s)->Z2 M c=some es->RTs C M (ofF s) es->wt M n c<=2 * mny s+1:=λs n c es g J B=>by
  cases n with
  | zero=>show nj _
  | succ n=>erw[wt,J,Option.getD_some];have:=g n B;lia
 induction s with
 | nil=>intro n es h;rw[show es=[] from h];show nj _
 | act a r g=>rintro n es ⟨x,e,rfl,j,h⟩;have:=g n h;rw[j.1];erw[Aj,Iw,mny,Ln.d,wtD,q,Dz,Ls];erw[wtP];lia
 | fin a r g=>rintro n es ⟨x,e,rfl,j,h⟩;have:=g n h;rw[j.1];erw[Aj,Iw,mny,Ln.d,wtD,wtP,Dz,Ls];lia
 | lv k r g=>rintro n es ⟨x,e,rfl,j,h⟩;have:=g n h;rw[j.1];erw[Aj,Iw,mny,Ln.d,wtD,wtP,Dz,Ls];lia
 | ag k r g=>rintro n es ⟨x,e,rfl,j,h⟩;have:=g n h;rw[j.1];erw[Aj,Iw,mny,Ln.d,wtD,wtP,Dz,Ls];lia
 | ch a y z r I H g=>rintro n es ⟨x,e,rfl,⟨A,N,w,L,rfl,t,m,l,G,F,E⟩,h⟩;have v:=g n h;have u:=i y n I l G;have K:=i z n H F E;erw[Aj,Iw,mny,wtD,q,Dz,Ls];erw[wtP];lia
 | rd k b r p g=>rintro n es ⟨x,e,rfl,⟨A,w,rfl,t,m,l⟩,h⟩;have v:=g n h;have u:=i b n p m l;erw[Aj,Iw,mny,wtD,wtP,Dz,Ls];lia
 | pt k b r p g=>rintro n es ⟨x,e,rfl,⟨A,w,rfl,t,m,l⟩,h⟩;have v:=g n h;have u:=i b n p m l;erw[Aj,Iw,mny,wtD,wtP,Dz,Ls];lia
def Ce(c:List Int)(a b:Option Int):U.cutD (c.map D.int) a b=(U.cutD c a b).map D.int:=by ext U.cutD;rw[Al,<-List.map_drop,List.map_take]
def Y52(a:List Int):(U.cutD a (some 1) (some 61)).length<=60:=by ext U.cutD;have c:HT.sIx (Lg a) 0 (some 1)=min 1 (Lg a):=HT.Pz (Lg a) 0 1;have b:HT.sIx (Lg a) (Lg a) (some 61)=min 61 (Lg a):=HT.Pz (Lg a) (Lg a) 61;rw[c,b,Hk];lia
def Y12(a:List Int):(U.cutD a none (some 20)).length=min 20 (Lg a):=by ext U.cutD;have c:HT.sIx (Lg a) 0 none=0:=rfl;have b:HT.sIx (Lg a) (Lg a) (some 20)=min 20 (Lg a):=HT.Pz (Lg a) (Lg a) 20;rw[c,b];simp
def Ye0{s:FF}(f:Fw s){es a:LD}(h:Z2 M r=some es)(e:RTs C M (ofF s) es)(h':Z2 M c=some a)(b:RTs C' M (ofF s) a)(q:B true):eqD M (.ref r) (.ref c) B:=by
 have l:Db (.list (datF s))=true:=by rw[Z55];show layF s f.o
 have d:Hb (.list (datF s))<=60:=by have:=Yi7 s;have:=f.h;erw[Hb];lia
 show .inl (.list (datF s),.list (datF s),pd_l h (pdF s e),pd_l h' (pdF s b),l,l,nh (Nat.min_le_left _ _) d,by rw[PySem.SeqAt.eqv_refl _ l];show q)
def HX(M:Z3)(r:Nat)(s:FF)(U:Nat->Prop):Prop:=∃C a,Z2 M r=some a/\RTs C M (ofF s) a/\(∀c,C c->U c/\c<Lg M)/\U r
def HX.keep{s:FF}(h:HX M r s U)(k:∀x,U x->x<Lg M->M'[x]?=M[x]?)(l:Lg M<=Lg M'):HX M' r s U:=by let(C,g,e,f,b,d):=h;show(C,g,by rw[Z6 (k r d (Z9 (Z0 e)))];show e,f.keep (λ_ z=>z) λc a=>k c (b c a).1 (b c a).2,λc a=>((b c a).1,ng (b c a).2 l),d)
def HX.up{s:FF}(h:HX M r s U)(k:Kp M M'):HX M' r s U:=h.keep (λx _ l=>k.at' x (λz=>z) l) k.len
def HX.eq{s:FF}{U i:Nat->Prop}(f:Fw s)(h:HX M r s U)(h':HX M c s i)(q:B true):eqD M (.ref r) (.ref c) B:=by let(C,j,e,d,_):=h;let(k,g,b,a,_):=h';show Ye0 f e d b a q
def HX.al{s:FF}(f:Fo s)(h:HX M r s U)(h':HX M c s j):AL M 120 (.ref r) (.ref c):=by let(C,k,g,e,_):=h;let(l,i,b,a,_):=h';show Yn9 (n:=59) g e b a (by have:=f.m;lia) (by have:=f.d;lia)
def HX.tidied{s:FF}(f:Fo s)(h:HX M r s U)(q:∀M' d,Kp M M'->HX M' d (TD.tdd s) (λx=>(Lg M)<=x/\x<Lg M')->Q (.ref d) M'):Zq [.ref r] M Q Z:=by let(C,t,p,m,j,_):=h;show(C,s,r,t,rfl,p,m,λc g=>(j c g).2,f.o,f.z,f.k.td.nu,(B0 f.k.td).l,(B0 f.k.td).a,λw M' d b A k F=>q M' d k ?_);let(v,i,u):=F.e;have y:=Z9 (Z0 i);show(w,v,i,u,λc g=>by have:=F.c c g;lia,by have:=F.n.2;lia)
def HX.stay{s:FF}(f:Fo s)(h:HX M r s U)(q:∀M',Kp M M'->Q (.bl true) M'):Q5 [.ref r] M Q Z:=by let(C,g,e,d,b,_):=h;show(C,s,r,g,rfl,e,d,λc a=>(b c a).2,f,q)
def HX.shape{s:FF}(f:Fo s)(h:HX M r s U)(a:Z2 M o=some [])(q:∀M',Kp M M'->Q (.bl true) M'):V0 60 [.ref r,.ref o] M Q Z:=by let(C,j,i,g,e,_):=h;show(C,s,r,j,o,[],rfl,i,g,λc b=>(e c b).2,a,(λm z=>(f.k.lv m z).elim,λm z=>(f.k.ag m z).elim),f.d,'d',q)
def HX.spoilt{s:FF}(f:Fo s)(h:HX M r s U)(q:∀M',(∀x,¬U x->M'[x]?=M[x]?)->(Lg M)<=Lg M'->Q .non M'):Ob 60 [.ref r] M Q Z:=by let(C,l,b,a,k,j):=h;have g:=f.d;show(U,r,60,1000,2001,rfl,Yt8 (λc i=>(k c i).1) 60 b a j g,Yu1 60 b a f.m,?_,'d',na _,λM' p=>q M' (λx e=>p.at' x λz=>e z.1) p.len);have:=Yt5 s 59 a;have:=f.m;change 1+(((Z2 M r).getD []).map (wtD (wt M 59))).sum<=2001;rw[b,Option.getD_some];lia
def HX.mono{M:Z3}{r:Nat}{s:FF}{U V:Nat->Prop}(h:HX M r s U)(k:∀x,U x->V x):HX M r s V:=by let(C,g,f,e,b,d):=h;show(C,g,f,e,λc a=>(k c (b c a).1,(b c a).2),k r d)
def HF.hx{s:FF}(h:HF M r s):HX M r s λ_=>True:=by let(f,e,C,d,b):=h;show(C,f,e,d,λc a=>(trivial,b c a),trivial)
def Yw3{Γ G}(g15:Γ[15]?=some Zq)(n:Γ[36]?=some (Xj 120))(m:Γ[40]?=some Q5){s t:FF}{e d c b:Nat}{A z y x:Nat->Prop}{w v u r p:Option D}(F:Fw s)(o:Fo t)(h:HX M e s A)(g:HX M d s z)(E:HX M c (TD.tdd s) y)(C:HX M b t x)(q:∀M',Q (.bl true) M'):
  tss (K,Γ,G) noX Bb {nx:=λ_ M=>Q .non M,rt:=Q} [w,v,↑e,↑d,u,r,↑c,↑b,p] M:=by
 have a:=F.fo;delta Bb;generalize l:C6=B1;rfl';erw[m];show h.stay a λL f=>?_;rfl';show(C.up f).stay o λJ j=>?_;rfl';have k:=f.trans j;subst l;delta C6;rfl';rw[nb 'd'];show HX.eq F (h.up k) (g.up k) ?_;erw[g15,n];rw[nc trivial];show(g.up k).tidied a λI H i B=>(_,_,rfl,B.al a.td ((E.up k).up i),q _)
def Yu7{Γ G}(g15:Γ[15]?=some Zq)(Z:Γ[36]?=some (Xj 120))(W:Γ[40]?=some Q5)(X:Γ[39]?=some Xc)(Y:Γ[41]?=some (Ob 60)){s:FF}{a:List Int}{b e o n u l:Nat}{A z d7 f:Option D}(F:Fw s)(v:Zg M 0=some (a.map .int))(hb:0<b)(O:b<=e)(I:HX M o s (· <b))(H:HX M n s (· <b))(E:HX M u (TD.tdd s) λx=>b<=x/\x<e)(B:HX M l (TD.tdd s) (e<=·))(q:∀M',Q (.bl true) M'):
  tss (K,Γ,G) noX Jc {nx:=λ_ M=>Q .non M,rt:=Q} [↑0,A,↑o,↑n,↑u,z,↑l,d7,f] M:=by
 have Fs:=F.fo;delta Jc;rfl';erw[Y];show E.spoilt Fs.td λc g p=>?_;have V:HX c o s (· <b):=I.keep (λx r _=>g x 'o') p;have T:HX c n s (· <b):=H.keep (λx r _=>g x 'o') p;have S:HX c l (TD.tdd s) (e<=·):=B.keep (λx r _=>g x 'o') p;have j:Zg c 0=some (a.map .int):=by unfold Zg at v |-;rw[g 0 'o'];show v
 clear v I H E B g p;rfl';show(nj _,a.map .int,Zc j,?_);rw[Ce];show Zv (Zh _ _ []) ('o',by rw[Al,Y12];lia,?_);rw[Kl,Al,Y12];have y:Kp c (c++[Cell.lst []]++[Cell.lst ((U.cutD a none (some 20)).map D.int)]):=(Ks.new _ _).app _;have w:HF (c++[Cell.lst []]++[Cell.lst ((U.cutD a none (some 20)).map D.int)]) (Lg c) (Zg3 a 0):=HL.nil.new.up (Ks.new _ _);generalize c++[Cell.lst []]++[Cell.lst ((U.cutD a none (some 20)).map D.int)]=M2 at y w;generalize (Lg c)=d at w;show Ji (λi t M'=>∃d f,t=[↑0,A,↑o,↑n,↑u,z,↑l,↑d,f]/\Kp c M'/\HF M' d (Zg3 a i)) (d,f,rfl,y,w) ?_ ?_
 .rintro i t M' C hi ⟨d,f,rfl,k,h⟩ P;have N:=Zp0 a i;have r:(a.map D.int)[i]?=some (.int (a.getD i 0)):=by rw[Dj,Ah 'o',Dd,Ah 'o'];rfl
  (delta Zb5;erw[Int.zero_add])
  rfl';erw[X];show ix_l (k:=i) (k.pL j) r (Zg3 a i,d,_,i,rfl,h,by have:=N.m;lia,'o',λM3 J L R=>?_);rfl';show P _ _ (J,_,rfl,k.trans L,R)
 .rintro t M' ⟨d,f,rfl,k,h⟩;show Yw3 g15 Z W F ((Zp0 a _).fo (Nat.min_le_left _ _)) (V.up k) (T.up k) (S.up k) h.hx q
def Yu4{Γ G}(g15:Γ[15]?=some Zq)(k:Γ[36]?=some (Xj 120))(p:Γ[40]?=some Q5)(r:Γ[39]?=some Xc)(t:Γ[41]?=some (Ob 60)){s:FF}{l:List Int}{M:Z3}{Q:DK}{b e j i h:Nat}{z y w v u:Option D}(F:Fw s)(m:Zg M 0=some (l.map .int))(n:0<b)(c:b<=e)(H:e<=Lg M)(B:HX M j s (· <b))(A:HX M i s (· <b))(f:HX M h (TD.tdd s) λx=>b<=x/\x<e)(q:∀M',Q (.bl true) M'):
  tss (K,Γ,G) noX Jg {nx:=λ_ M=>Q .non M,rt:=Q} [↑0,z,↑j,↑i,↑h,y,w,v,u] M:=by
 have g:=F.fo;delta Jg;generalize o:Jc=B4;rfl';erw[g15];show f.tidied g.td λI C a d=>?_;rw[g.fix] at d;rfl';erw[k];show(_,_,rfl,d.al g.td (f.up a),?_);rfl';subst o;show Yu7 g15 k p r t F (a.pL m) n c (B.up a) (A.up a) (f.up a) (d.mono λx E=>by lia) q
def Ya5{l:List Int}(h:Z2 M r=some (l.map D.int))(h':Z2 M c=some (l.map D.int))(q:B true):eqD M (.ref r) (.ref c) B:=by
 have e:PDs M (l.map PyData.int) (l.map D.int)/\He (l.map PyData.int)=true/\Go (l.map PyData.int)=0:=by
  clear h h';induction l with
  | nil=>show(rfl,Qr,by simp[Go])
  | cons i l b=>show((_,_,rfl,rfl,b.1),Yj (Ew i) b.2.1,by rw[Aj,Go,b.2.2];rfl)
 have a:Db (.list (l.map PyData.int))=true:=by rw[Z55];show e.2.1
 show .inl (.list (l.map PyData.int),.list (l.map PyData.int),pd_l h e.1,pd_l h' e.1,a,a,nh (Nat.min_le_left _ _) (by erw[Hb,e.2.2];decide),by rw[PySem.SeqAt.eqv_refl _ a];show q)
def Yw6{Γ G}(g15:Γ[15]?=some Zq)(gt:Γ[31]?=some (Vo 60))(ga:Γ[36]?=some (Xj 120))(gy:Γ[40]?=some Q5)(gw:Γ[39]?=some Xc)(gp:Γ[41]?=some (Ob 60)){s:FF}{T:List Int}{b e E B t:Nat}(F:Fw s)(W:Zg M 0=some (T.map .int))(hb:0<b)(y:b<=e)(X:e<=Lg M)(H2:HX M E s (· <b))(H3:HX M B s (· <b))(A:HX M t (TD.tdd s) λx=>b<=x/\x<e)(q:∀M',Q (.bl true) M'):
  tss (K,Γ,G) noX Jl {nx:=λ_ M=>Q .non M,rt:=Q} [↑0,d1,↑E,↑B,↑t,d5,d6,d7,d8] M:=by
 have J:=F.fo;have p:=J.td;let(N,O):=J.tidy;delta Jl;generalize hB:Jg=B5;rfl';erw[gt];have v:Kp M (M++[Cell.lst []]):=Ks.new _ _;let(C,es,L,P,I,u4):=A.up v;have U:t<Lg M:=by let(_,_,h,_):=A;show Z9 (Z0 h)
 show(nj _,C,TD.tdd s,t,es,Lg M,[],rfl,L,P,λc Z=>(I c Z).2,λh=>by have:=(I _ h).1;lia,'o',Z5 _ _ [],by have:=p.u;simp;lia,p.m,p.o,p.d,na _,λ_ w g j=>?_,λR=>absurd N R);have V:Kp M w:=(λa _ l=>(g.at' a (by change ¬a=Lg M;lia) (ng l v.len)).trans (v.at' a (λz=>z) l),nh v.len g.len);rw[Ho,O] at j;rfl';have ei:nD (Dn (TD.nums (TD.tdd s)).length)=((Dn (TD.nums (TD.tdd s)).length).map fun(n:Nat)=>(n:Int)).map D.int:=by simp[nD]
 rw[ei] at j;have f:=p.u;generalize (TD.nums (TD.tdd s)).length=n at j f;show Zv (Z0 j) ('o',by rw[Al,Al,List.length_range];lia,?_);rw[Kl,Al,Al,List.length_range];have e2:Ri 0 n=((Dn n).map fun(n:Nat)=>(n:Int)).map D.int:=by ext Ri;simp
 try erw[capD,Aj,Dz,Lz,Kw]
 show Ta (λi r M'=>∃d,r=[d]/\M'=w++[.lst ((Ri 0 n).take i)]) (none,rfl,rfl) ?_ ?_ ?_
 .rintro i r M' _ ⟨d,rfl,rfl⟩;trivial
 .rintro i d r M' S Y ⟨d0,rfl,rfl⟩ hS;rw[tg_one];erw[List.set_cons_zero,Ie];show(_,Z5 _ _ [],Za (by rw[Hk,Yv];lia),?_);rw[Rl];show hS _ _ (_,rfl,?_);rw[Xd Y]
 .rintro r M' ⟨d,rfl,rfl⟩;rw[Ik];have H:Kp w (w++[Cell.lst (Ri 0 n)]):=Ks.new _ _;show Ya5 (H.pW j) (by rw[<-e2];show Z5 _ _ []) ?_;rw[nb 'd'];have k:=V.trans H;subst hB;show Yu4 g15 ga gy gw gp F (k.pL W) hb y (nh X k.len) (H2.up k) (H3.up k) (A.up k) q
def Yy4{Γ G}(g15:Γ[15]?=some Zq)(gc:Γ[16]?=some W8)(gn:Γ[18]?=some X5)(gf:Γ[26]?=some X3)(gs:Γ[35]?=some (V0 60))(gt:Γ[31]?=some (Vo 60))(ga:Γ[36]?=some (Xj 120))(gw:Γ[39]?=some Xc)(gy:Γ[40]?=some Q5)(gp:Γ[41]?=some (Ob 60)):Rd K Γ G Z53 Yi0 Zt3:=by
 rintro I M Q Z ⟨h,rfl,rfl,hn,_,q⟩;have C:Zg [.frz (h.map .int)] 0=some (h.map .int):=rfl;generalize [Cell.frz (h.map .int)]=M at C |-;delta Yi0 Zt3;generalize hB:Jl=B6;rfl';erw[gc,gn,gf,g15];show(0,h,0,rfl,C,_,rfl,λW P k1 p=>?_);have f:=k1.pL C;obtain⟨l,D⟩:∃l,l=nms (Z82 h 0):=(_,rfl);have z:Lg l=4:=by rw[D];show Yf9 _
 have y:∀x∈l,Db (.str x)=true:=by rw[D];show Yr0 _
 rw[<-D] at p;rfl';obtain⟨m,g⟩:∃m,m=U.cutD h (some 1) (some 61):=(_,rfl);have A:Lg m<=60:=by rw[g];show Y52 h
 have F:=Y88 z y A;obtain⟨s,B⟩:∃s,s=Cr l m:=(_,rfl);rw[<-B] at F;show(_,f,?_);rw[Ce,<-g];show(_,P,m,l,rfl,Zh _ _ [],A,z,Zc p,λC2 r R H V u w L=>?_);rw[<-B] at w;have d:Kp W r:=(Ks.new W _).trans V;rfl';show(_,d.pL f,?_);rw[Ce,<-g];show(_,P,m,l,rfl,Zh _ _ [],A,z,Zc (d.pL p),λC3 i r3 E T t v J=>?_);rw[<-B] at v;have a:Kp r i:=(Ks.new r _).trans T;have n:=a.pL (d.pL f);have Fs:=F.fo;have O:HX i R s (· <Lg i):=(show HX r R s (· <Lg i) from(C2,H,u,w,λc o=>(ng (L c o) a.len,L c o),ng (Z9 (Z0 u)) a.len)).up a;have Y:HX i r3 s (· <Lg i):=(C3,E,t,v,λc o=>(J c o,J c o),Z9 (Z0 t));clear w v u t L J d V T p f g;rfl';show O.tidied Fs λN r4 j X=>?_;erw[gs];have S:Kp N (N++[Cell.lst []]):=Ks.new _ _;show(nj _,(X.up S).shape Fs.td (Z5 _ _ []) λM5 k6=>?_);have k:=S.trans k6;rfl';show HX.eq F ((O.up j).up k) ((Y.up j).up k) ?_;rw[nb 'd'];subst hB;show Yw6 g15 gt ga gy gw gp F (k.pL (j.pL n)) (b:=Lg i) (e:=Lg N) (Zh3 n) j.len k.len ((O.up j).up k) ((Y.up j).up k) (X.up k) q
structure DW(K:Aa)(mg:Str->Option Ua)(n m:Str)(st:Stmt)(ps:LS) where
 mk::
 a:Uc
 d:FuncData
 F:Fun K m n st a d
 g:At K mg n a
 b:Wt K d ps []
def DW.of{K:Aa}{h:Uf}{mg:Str->Option Ua}{n:Str}{st:Stmt}{ps:LS}{f:Uc}{oc kV dc pm cd ct:Ua}{od an:Option Uc}{sl:Array (Option Ua)}(X:K.In h)(G:h.Ns mainGlobals mg)(a:Lu K mainGlobals n=some (↑f))
  (l:K.lookup f=some (oc,od,.func (Hh n n (X8 st) (Y9 st) (Zi st) .none kV dc pm an cd ct),sl)) (c:Im K cd n=true) (k:Hg K (.ref f)=true) (hm:(mOf n).isNone=true:=by decide+kernel) (b:∀kV dc pm an cd ct,Wt K (Hh n n (X8 st) (Y9 st) (Zi st) .none kV dc pm an cd ct) ps []:=by intro _ _ _ _ _ _;show .all ?_;repeat first | show U.Y32 rfl | show U.Bo λ_=>?_):DW K mg n n st ps:=
 (f,_,Zd5 (st:=st) l c k,by ext At;rw[Option.isNone_iff_eq_none.mp hm];show(Mb X G a,k),b _ _ _ _ _ _)
def DW.en{K:Aa}{mg:Str->Option Ua}{n m:Str}{st:Stmt}{ps:LS}(T:DW K mg n m st ps):Ent K mg n:=(_,_,_,T.g,T.b)
structure OX(K:Aa)(mg:Str->Option Ua) where
 mk::
 C:Uc
 I:Uc
 T:Uc
 B:Uc
 dI:FuncData
 dT:FuncData
 dB:FuncData
 gC:mg "Opened"=↑C
 cl:Cls K C
 n1:W6 K C "line"
 n2:W6 K C "lists"
 n3:W6 K C "goings"
 mm:L2.Mk K C I
 ok:∀(P:Ud) (w:Ue) (mg:Str->Option Ua) (base:Uf),FnOk P w K mg base CX0 1 I dI ["self","line"] (Zg7 K)
 b0:Wt K dI ["self","line"] []
 FT:Fun K "tell" "Opened.tell" Rm T dT
 mT:Meth K C "tell" T
 bT:Wt K dT ["self","statements","going"] []
 FB:Fun K "begin_no" "Opened.begin_no" X7 B dB
 mB:Meth K C "begin_no" B
 bB:Wt K dB ["self"] []
def OX.of{K:Aa}{h:Uf}{mg:Str->Option Ua}{C I T B:Uc}{kI dcI pI cI tI oI kT dcT pT cT tT oT kB dcB pB cB tB oB:Ua}{nI odI nT odT nB odB:Option Uc}{sI sT sB:Array (Option Ua)}(X:K.In h)(G:h.Ns mainGlobals mg)
  (a:Lu K mainGlobals "Opened"=some (↑C)) (c1:Lw K C Str.empty=true) (c2:PySem.W.hasDictIn K C=true) (c3:PySem.W.plainOver K C=true) (c4:Dr K (.ref C) "__setattr__"=some (some (.builtin "object.__setattr__")))
  (n1:Dr K (.ref C) "line"=some none) (n2:Dr K (.ref C) "lists"=some none) (n3:Dr K (.ref C) "goings"=some none) (m1:PySem.W.makesIn K C=true) (m2:Dr K (.ref C) "__init__"=some (↑I)) (m3:Lo K (.ref I)=true) (m4:Hg K (.ref C)=true)
  (i1:K.lookup I=some (oI,odI,.func (Hh "__init__" "Opened.__init__" (X8 Ph) (Y9 Ph) (Zi Ph) .none kI dcI pI nI cI tI),sI)) (i2:Im K cI "Opened.__init__"=true)
  (t1:Dr K (.ref C) "tell"=some (↑T)) (t2:Lo K (.ref T)=true) (t3:Hg K (.ref T)=true)
  (t4:K.lookup T=some (oT,odT,.func (Hh "tell" "Opened.tell" (X8 Rm) (Y9 Rm) (Zi Rm) .none kT dcT pT nT cT tT),sT)) (t5:Im K cT "Opened.tell"=true)
  (u1:Dr K (.ref C) "begin_no"=some (↑B)) (u2:Lo K (.ref B)=true) (u3:Hg K (.ref B)=true)
  (u4:K.lookup B=some (oB,odB,.func (Hh "begin_no" "Opened.begin_no" (X8 X7) (Y9 X7) (Zi X7) .none kB dcB pB nB cB tB),sB)) (u5:Im K cB "Opened.begin_no"=true):OX K mg:=
 (C,I,T,B,_,_,_,Mb X G a,(c1,c2,c3,c4),n1,n2,n3,(m1,m2,m3,m4),λP w mg base=>Y66 i1 i2 Zq3 Zw6 rfl rfl,.all (Y36 λ_ _=>rfl),Zd5 (st:=Rm) t4 t5 t3,(t1,t2,t3),.all (Yl5 λ_ _ _=>rfl),Zd5 (st:=X7) u4 u5 u3,(u1,u2,u3),.all (Y25 λ_=>rfl))
def OX.t{K:Aa}{mg:Str->Option Ua}(X:OX K mg):DW K mg "Opened.tell" "tell" Rm ["self","statements","going"]:=(X.T,X.dT,X.FT,by
 ext At;rw[show mOf "Opened.tell"=some "tell" by decide+kernel];intro C h;cases X.gC.symm.trans h;show(X.cl,X.mT),X.bT)
def OX.u{K:Aa}{mg:Str->Option Ua}(X:OX K mg):DW K mg "Opened.begin_no" "begin_no" X7 ["self"]:=(X.B,X.dB,X.FB,by
 ext At;rw[show mOf "Opened.begin_no"=some "begin_no" by decide+kernel];intro C h;cases X.gC.symm.trans h;show(X.cl,X.mB),X.bB)
def OX.mo{K:Aa}{mg:Str->Option Ua}(X:OX K mg){P:Ud}{w:Ue}{base:Uf}:Mko P w K mg base:=by intro C h;cases X.gC.symm.trans h;show(X.I,X.dI,X.mm,FnOk.cx (X.ok P w mg base),X.b0)
def OX.oc{K:Aa}{mg:Str->Option Ua}(X:OX K mg):Oc K X.C:=((X.cl,X.n1),(X.cl,X.n2),(X.cl,X.n3))
def ad{P:Ud}{w:Ue}{K:Aa}{mg:Str->Option Ua}{base:Uf}{Γ:List DSp}{G:LD}{FN GN BN:LS}{lv:Nat}{x y:Str}{st:Stmt}{ps N:LS}{b:Ss}{sp:DSp}(Pr:Prg P w K mg base (K,Γ,G) FN GN BN lv)(n:Nat)(T:DW K mg x y st ps)(r:Rd K Γ G sp b N)(S:FnScope N ps (Zi st):=by show(rfl,rfl,rfl,'k',rfl,'k','k'))(hc:J9 (ck0 N st FN GN BN) b (Y9 st)=true:=by decide+kernel)
  (hl:∀ds M Q Z,sp ds M Q Z->(Lg ds)=Lg ps:=by intro _ _ _ _ h;repeat (first | (let(rfl,_):=h;rfl;done) | (let(_,h):=h))) (hx:FN[n]?=some x:=by rfl):Prg P w K mg base (K,Γ.set n sp,G) FN GN BN (lv+1):=Pr.add n hx (fn0 Pr T.F S hc hl r) (na _) (md _) T.g T.b
def pmix{P:Ud}{w:Ue}{K:Aa}{mg:Str->Option Ua}{base:Uf}{Γ Δ:List DSp}{G:LD}{FN GN BN:LS}{lv lw:Nat}(A:Prg P w K mg base (K,Γ,G) FN GN BN lv)(B:Prg P w K mg base (K,Δ,G) FN GN BN lw)(n:Nat){sp:DSp}(h:Δ[n]?=some sp)(lz:Nat)(h1:lv<=lz:=by decide)(h2:lw<=lz:=by decide):Prg P w K mg base (K,Γ.set n sp,G) FN GN BN lz where
 hK:=rfl
 fns:=λm y sp' e1 e2=>by
  replace e2:(Γ.set n sp)[m]?=some sp':=e2;by_cases e:n=m
  .subst e;rw[Ex (by rw[<-A.flen];show(Ai.mp e1).1)] at e2;cases e2;let(kk,f,fd,ps,ds,dvs,dD,sp0,F,hk,r):=B.fns n y sp e1 h;show(kk,f,fd,ps,ds,dvs,dD,sp0,F,nh hk h2,r)
  .rw[Dq e] at e2;let(kk,f,fd,ps,ds,dvs,dD,sp0,F,hk,r):=A.fns m y sp' e1 e2;show(kk,f,fd,ps,ds,dvs,dD,sp0,F,nh hk h1,r)
 flen:=by rw[A.flen];simp
 glb:=A.glb
 blt:=A.blt
 mko:=(A.mko.1,nh A.mko.2 h1)
section
variable{K:Aa}{mg:Str->Option Ua}(T0:DW K mg "line_of" "line_of" Zd1 ["statement"])(T1:DW K mg "told_within" "told_within" Jw ["statement"])(T2:DW K mg "lines_of" "lines_of" Z90 ["form"])(T3:DW K mg "lists_in" "lists_in" Z98 ["line"])(T4:DW K mg "form_of" "form_of" Zm1 ["lines"])(T7:DW K mg "with_number" "with_number" G4 ["line","numbers"])(T8:DW K mg "renumbered" "renumbered" F6 ["form"])(T9:DW K mg "cut_tails" "cut_tails" Cz ["statements","jump"])(T10:DW K mg "has_line" "has_line" Z58 ["statements","line"])(T11:DW K mg "with_other" "with_other" Gp ["statements","line","other"])(T12:DW K mg "closed_part" "closed_part" Nq ["number","body","going"])(T13:DW K mg "closed_round" "closed_round" Of ["number","body"])(T14:DW K mg "closed" "closed" Zx4 ["done"])(T15:DW K mg "tidied" "tidied" Zw2 ["form"])(T16:DW K mg "_law_cell" "_law_cell" Y97 ["_law_script","_law_k"])(T17:DW K mg "_law_mixed" "_law_mixed" Zt1 ["_law_cell_here","_law_k"])(T18:DW K mg "_law_names" "_law_names" Zw7 ["_law_cell_here"])(T19:DW K mg "_law_operand" "_law_operand" Z78 ["_law_number","_law_cell_here","_law_names_here"])(T20:DW K mg "_law_deed" "_law_deed" Yc4 ["_law_number","_law_cell_here","_law_names_here"])(T21:DW K mg "_law_closed" "_law_closed" Ze0 ["_law_frames"])(T22:DW K mg "_law_goto" "_law_goto" Ye1 ["_law_frames","_law_number","_law_word"])(T23:DW K mg "_law_opened" "_law_opened" Zj1 ["_law_frames","_law_number","_law_k"])(T24:DW K mg "_law_closed_too" "_law_closed_too" G0 ["_law_frames","_law_number"])(T25:DW K mg "_law_step" "_law_step" Yh7 ["_law_frames","_law_cell_here","_law_k","_law_names_here"])(T26:DW K mg "_law_form" "_law_form" Ya4 ["_law_cells","_law_names_here"])(T27:DW K mg "_law_has" "_law_has" Yp8 ["_law_form_here","_law_word"])(T28:DW K mg "_law_on" "_law_on" Yy2 ["_law_form_here"])(T29:DW K mg "_law_at_tail" "_law_at_tail" Z77 ["_law_form_here","_law_word"])(T30:DW K mg "_law_tidy_one" "_law_tidy_one" Ey ["_law_statement"])(T31:DW K mg "_law_tidy" "_law_tidy" Ye8 ["_law_form_here","_law_marks"])(T32:DW K mg "_law_whole" "_law_whole" Zz2 ["_law_thing"])(T33:DW K mg "_law_operands" "_law_operands" Ez ["_law_statement"])(T34:DW K mg "_law_shape_one" "_law_shape_one" Gq ["_law_statement","_law_opened_here"])(T35:DW K mg "_law_shape" "_law_shape" Zu2 ["_law_form_here","_law_opened_here"])(T36:DW K mg "_law_alike" "_law_alike" Zv2 ["_law_found","_law_due"])(T37:DW K mg "_law_numbered" "_law_numbered" El ["_law_form_here","_law_places"])(T38:DW K mg "_law_leaving" "_law_leaving" Z71 ["_law_number","_law_cell_here"])(T39:DW K mg "_law_wrapped" "_law_wrapped" Za2 ["_law_body","_law_cell_here","_law_k"])(T40:DW K mg "_law_tidy_stays" "_law_tidy_stays" J8 ["_law_form_here"])(T41:DW K mg "_law_spoilt" "_law_spoilt" Zl0 ["_law_form_here"])(X:OX K mg)
include T0 T1 T2 T3 T4 T7 T8 T9 T10 T11 T12 T13 T14 T15 T16 T17 T18 T19 T20 T21 T22 T23 T24 T25 T26 T27 T28 T29 T30 T31 T32 T33 T34 T35 T36 T37 T38 T39 T40 T41 X
theorem Ys6{P:Ud}{w:Ue}{base:Uf}(T42:DW K mg "law" "law" Em ["_law_script"])(Q_ELSE:∃a,mg "ELSE"=↑a/\∃(o:Obj) (its:Array Ua) (n:Nat),K.lookup a=some o/\o.cls= .type "tuple"/\o.data= .seq its n/\its.size<=sizeLine/\Vals [.str "else"] its.toList)(Q_DONE:∃a,mg "DONE"=↑a/\∃(o:Obj) (its:Array Ua) (n:Nat),K.lookup a=some o/\o.cls= .type "tuple"/\o.data= .seq its n/\its.size<=sizeLine/\Vals [.str "done"] its.toList)(Q_OPENERS:∃a,mg "OPENERS"=↑a/\∃(o:Obj) (its:Array Ua) (n:Nat),K.lookup a=some o/\o.cls= .type "tuple"/\o.data= .seq its n/\its.size<=sizeLine/\Vals [.str "choice",.str "round",.str "part"] its.toList)(hz:∀x∈BN,mg x=none):FnOk P w K mg base (CX1 P w) 219 T42.a T42.d ["_law_script"] (spF K Z53):=by
 have PZ:Prg P w K mg base (K,[bot,bot,bot,bot,bot,bot,bot,bot,bot,bot,bot,bot,bot,bot,bot,bot,bot,bot,bot,bot,bot,bot,bot,bot,bot,bot,bot,bot,bot,bot,bot,bot,bot,bot,bot,bot,bot,bot,bot,bot,bot,bot,bot],[.gtup [.str "else"],.gtup [.str "done"],.gtup [.str "choice",.str "round",.str "part"],.cls X.C]) FN GN BN 2:=Prg.zero X.mo (all_cons T0.en (all_cons T1.en (all_cons T2.en (all_cons T3.en (all_cons T4.en (all_cons X.t.en (all_cons X.u.en (all_cons T7.en (all_cons T8.en (all_cons T9.en (all_cons T10.en (all_cons T11.en (all_cons T12.en (all_cons T13.en (all_cons T14.en (all_cons T15.en (all_cons T16.en (all_cons T17.en (all_cons T18.en (all_cons T19.en (all_cons T20.en (all_cons T21.en (all_cons T22.en (all_cons T23.en (all_cons T24.en (all_cons T25.en (all_cons T26.en (all_cons T27.en (all_cons T28.en (all_cons T29.en (all_cons T30.en (all_cons T31.en (all_cons T32.en (all_cons T33.en (all_cons T34.en (all_cons T35.en (all_cons T36.en (all_cons T37.en (all_cons T38.en (all_cons T39.en (all_cons T40.en (all_cons T41.en (all_cons T42.en (all_nil)))))))))))))))))))))))))))))))))))))))))))) rfl (by intro sp h;erw[Ab,Ia,or_false,or_self] at h;show h) (λg x d h1 h2=>match g,h1,h2 with | 0,h1,h2=>by cases h1;cases h2;let(a,e,r):=Q_ELSE;show(.ref a,_,e,rfl,λw hw=>Vr.mpr (a,_,rfl,.inr (by rw[hw];show r),(RDs.cons (Zw.mpr rfl) (RDs.nil w)))) | 1,h1,h2=>by cases h1;cases h2;let(a,e,r):=Q_DONE;show(.ref a,_,e,rfl,λw hw=>Vr.mpr (a,_,rfl,.inr (by rw[hw];show r),(RDs.cons (Zw.mpr rfl) (RDs.nil w)))) | 2,h1,h2=>by cases h1;cases h2;let(a,e,r):=Q_OPENERS;show(.ref a,_,e,rfl,λw hw=>Vr.mpr (a,_,rfl,.inr (by rw[hw];show r),(RDs.cons (Zw.mpr rfl) (RDs.cons (Zw.mpr rfl) (RDs.cons (Zw.mpr rfl) (RDs.nil w)))))) | 3,h1,h2=>by cases h1;cases h2;show(.ref _,.ref _,X.gC,rfl,λw _=>Z45.mpr rfl) | n+4,h1,h2=>by cases h2) hz;have P0:=PZ;have P1:=ad P0 0 T0 (sp:=Yi) Zf2;have P2:=ad P1 1 T1 (sp:=Wa) (J0 rfl rfl);have P3:=ad P2 2 T2 (sp:=Zn) (Z88 rfl rfl);have P4:=ad P3 3 T3 (sp:=Yx) Z48;have P5:=ad P4 4 T4 (sp:=Yb) (Zo2 rfl rfl rfl);have P6:=ad P5 5 X.t (sp:=W0 K) Yi1;have P7:=ad P6 6 X.u (sp:=Y7 K) Eu;have P8:Prg P w K mg base (K,[_,_,_,_,_,_,_,_,_,_,_,_,_,_,_,_,_,_,_,_,_,_,_,_,_,_,_,_,_,_,_,_,_,_,_,_,_,_,_,_,_,_,_],_) FN GN BN 10:=ad P7 7 T7 (sp:=X2) Jv;have P9:=ad P8 8 T8 (sp:=X6) (Ff rfl rfl rfl);have P10:=ad P9 9 T9 (sp:=Td) Cu;have P11:=ad P10 10 T10 (sp:=V8) (Za9 rfl);have P12:=ad P11 11 T11 (sp:=Yr) (F3 rfl rfl);have P13:=ad P12 12 T12 (sp:=Sb) (Jr rfl rfl rfl);have P14:=ad P13 13 T13 (sp:=To) (Oe rfl rfl);have P15:=ad P14 14 T14 (sp:=Yh K X.C) (Zq9 rfl rfl rfl rfl rfl);have P16:Prg P w K mg base (K,[_,_,_,_,_,_,_,_,_,_,_,_,_,_,_,_,_,_,_,_,_,_,_,_,_,_,_,_,_,_,_,_,_,_,_,_,_,_,_,_,_,_,_],_) FN GN BN 18:=ad P15 15 T15 (sp:=Zq) (Zq7 (rfl,rfl,rfl,rfl,X.oc,rfl,rfl,rfl,rfl,rfl));have P17:=ad P16 16 T16 (sp:=W8) Y45;have P18:=ad P17 17 T17 (sp:=Yq) Y01;have P19:=ad P18 18 T18 (sp:=X5) Zy4;have P20:=ad P19 19 T19 (sp:=Zy) Z84;have P21:=ad P20 20 T20 (sp:=W3) (Yf3 rfl);have P22:=ad P21 21 T21 (sp:=Zt) Zo3;have P23:=ad P22 22 T22 (sp:=Yt) Yh8;have P24:Prg P w K mg base (K,[_,_,_,_,_,_,_,_,_,_,_,_,_,_,_,_,_,_,_,_,_,_,_,_,_,_,_,_,_,_,_,_,_,_,_,_,_,_,_,_,_,_,_],_) FN GN BN 26:=ad P23 23 T23 (sp:=Zx) Ze7;have P25:=ad P24 24 T24 (sp:=Xk) (Jb rfl);have P26:=ad P25 25 T25 (sp:=X4) (Yd2 rfl rfl rfl rfl rfl rfl);have P27:=ad P26 26 T26 (sp:=X3) (Y81 rfl rfl);have P28:=ad P27 32 T32 (sp:=Yu) Zx2;have P29:=ad P28 33 T33 (sp:=W9) (Ct rfl);have P30:=ad P29 38 T38 (sp:=Wb) Z83;have P31:Prg P w K mg base (K,[_,_,_,_,_,_,_,_,_,_,_,_,_,_,_,_,_,_,_,_,_,_,_,_,_,_,_,_,_,_,_,_,_,_,_,_,_,_,_,_,_,_,_],_) FN GN BN 33:=ad P30 39 T39 (sp:=Xc) (Z63 rfl rfl);have A27:∀n:Nat,Prg P w K mg base (K,[Yi,Wa,Zn,Yx,Yb,W0 K,Y7 K,X2,X6,Td,V8,Yr,Sb,To,Yh K X.C,Zq,W8,Yq,X5,Zy,W3,Zt,Yt,Zx,Xk,X4,X3,Vb n,bot,bot,bot,bot,Yu,W9,bot,bot,bot,bot,Wb,Xc,bot,bot,bot],[.gtup [.str "else"],.gtup [.str "done"],.gtup [.str "choice",.str "round",.str "part"],.cls X.C]) FN GN BN (33+n+1):=by
  intro n;induction n with
  | zero=>show ad P31 27 T27 Yg2
  | succ n ih=>show ad ih 27 T27 (Y94 rfl)
 have P32:Prg P w K mg base (K,[Yi,Wa,Zn,Yx,Yb,W0 K,Y7 K,X2,X6,Td,V8,Yr,Sb,To,Yh K X.C,Zq,W8,Yq,X5,Zy,W3,Zt,Yt,Zx,Xk,X4,X3,Vb 60,bot,bot,bot,bot,Yu,W9,bot,bot,bot,bot,Wb,Xc,bot,bot,bot],[.gtup [.str "else"],.gtup [.str "done"],.gtup [.str "choice",.str "round",.str "part"],.cls X.C]) FN GN BN 94:=A27 60;have A28:∀n:Nat,Prg P w K mg base (K,[Yi,Wa,Zn,Yx,Yb,W0 K,Y7 K,X2,X6,Td,V8,Yr,Sb,To,Yh K X.C,Zq,W8,Yq,X5,Zy,W3,Zt,Yt,Zx,Xk,X4,X3,Vb 60,Jt n,bot,bot,bot,Yu,W9,bot,bot,bot,bot,Wb,Xc,bot,bot,bot],[.gtup [.str "else"],.gtup [.str "done"],.gtup [.str "choice",.str "round",.str "part"],.cls X.C]) FN GN BN (94+n+1):=by
  intro n;induction n with
  | zero=>show ad P32 28 T28 Yp4
  | succ n ih=>show ad ih 28 T28 (Yq6 rfl rfl)
 have P33:Prg P w K mg base (K,[Yi,Wa,Zn,Yx,Yb,W0 K,Y7 K,X2,X6,Td,V8,Yr,Sb,To,Yh K X.C,Zq,W8,Yq,X5,Zy,W3,Zt,Yt,Zx,Xk,X4,X3,Vb 60,Jt 60,bot,bot,bot,Yu,W9,bot,bot,bot,bot,Wb,Xc,bot,bot,bot],[.gtup [.str "else"],.gtup [.str "done"],.gtup [.str "choice",.str "round",.str "part"],.cls X.C]) FN GN BN 155:=A28 60;have A29:∀n:Nat,Prg P w K mg base (K,[Yi,Wa,Zn,Yx,Yb,W0 K,Y7 K,X2,X6,Td,V8,Yr,Sb,To,Yh K X.C,Zq,W8,Yq,X5,Zy,W3,Zt,Yt,Zx,Xk,X4,X3,bot,bot,Vf n,bot,bot,Yu,W9,bot,bot,bot,bot,Wb,Xc,bot,bot,bot],[.gtup [.str "else"],.gtup [.str "done"],.gtup [.str "choice",.str "round",.str "part"],.cls X.C]) FN GN BN (33+n+1):=by
  intro n;induction n with
  | zero=>show ad P31 29 T29 Zt8
  | succ n ih=>show ad ih 29 T29 (Zr4 rfl)
 have P34:=pmix P33 (A29 60) 29 (sp:=Vf 60) rfl 155;have P35:=ad P34 30 T30 (sp:=Ea) (Yo8 rfl rfl rfl);have A31:∀n:Nat,Prg P w K mg base (K,[Yi,Wa,Zn,Yx,Yb,W0 K,Y7 K,X2,X6,Td,V8,Yr,Sb,To,Yh K X.C,Zq,W8,Yq,X5,Zy,W3,Zt,Yt,Zx,Xk,X4,X3,Vb 60,Jt 60,Vf 60,Ea,Vo n,Yu,W9,bot,bot,bot,bot,Wb,Xc,bot,bot,bot],[.gtup [.str "else"],.gtup [.str "done"],.gtup [.str "choice",.str "round",.str "part"],.cls X.C]) FN GN BN (156+n+1):=by
  intro n;induction n with
  | zero=>show ad P35 31 T31 Zu8
  | succ n ih=>show ad ih 31 T31 (Zs8 rfl rfl rfl)
 have P36:Prg P w K mg base (K,[Yi,Wa,Zn,Yx,Yb,W0 K,Y7 K,X2,X6,Td,V8,Yr,Sb,To,Yh K X.C,Zq,W8,Yq,X5,Zy,W3,Zt,Yt,Zx,Xk,X4,X3,Vb 60,Jt 60,Vf 60,Ea,Vo 60,Yu,W9,bot,bot,bot,bot,Wb,Xc,bot,bot,bot],[.gtup [.str "else"],.gtup [.str "done"],.gtup [.str "choice",.str "round",.str "part"],.cls X.C]) FN GN BN 217:=A31 60;have A35:∀n:Nat,Prg P w K mg base (K,[Yi,Wa,Zn,Yx,Yb,W0 K,Y7 K,X2,X6,Td,V8,Yr,Sb,To,Yh K X.C,Zq,W8,Yq,X5,Zy,W3,Zt,Yt,Zx,Xk,X4,X3,bot,bot,bot,bot,bot,Yu,W9,Fj n,V0 (n+1),bot,bot,Wb,Xc,bot,bot,bot],[.gtup [.str "else"],.gtup [.str "done"],.gtup [.str "choice",.str "round",.str "part"],.cls X.C]) FN GN BN (33+2 * n+3):=by
  intro n;induction n with
  | zero=>show ad (ad (ad P31 35 T35 (sp:=V0 0) Zc1) 34 T34 (sp:=Fj 0) (Qf rfl rfl rfl)) 35 T35 (Eb rfl)
  | succ n ih=>show ad (ad ih 34 T34 (sp:=Fj (n+1)) (Qf rfl rfl rfl)) 35 T35 (Eb rfl)
 have P37:=pmix P36 (A35 59) 35 (sp:=V0 60) rfl 217;have A36:∀n:Nat,Prg P w K mg base (K,[Yi,Wa,Zn,Yx,Yb,W0 K,Y7 K,X2,X6,Td,V8,Yr,Sb,To,Yh K X.C,Zq,W8,Yq,X5,Zy,W3,Zt,Yt,Zx,Xk,X4,X3,bot,bot,bot,bot,bot,Yu,W9,bot,bot,Xj n,bot,Wb,Xc,bot,bot,bot],[.gtup [.str "else"],.gtup [.str "done"],.gtup [.str "choice",.str "round",.str "part"],.cls X.C]) FN GN BN (33+n+1):=by
  intro n;induction n with
  | zero=>show ad P31 36 T36 Zh7
  | succ n ih=>show ad ih 36 T36 (Zf6 rfl)
 have P38:=pmix P37 (A36 120) 36 (sp:=Xj 120) rfl 217;have A37:∀n:Nat,Prg P w K mg base (K,[Yi,Wa,Zn,Yx,Yb,W0 K,Y7 K,X2,X6,Td,V8,Yr,Sb,To,Yh K X.C,Zq,W8,Yq,X5,Zy,W3,Zt,Yt,Zx,Xk,X4,X3,bot,bot,bot,bot,bot,Yu,W9,bot,bot,bot,Fq n,Wb,Xc,bot,bot,bot],[.gtup [.str "else"],.gtup [.str "done"],.gtup [.str "choice",.str "round",.str "part"],.cls X.C]) FN GN BN (33+n+1):=by
  intro n;induction n with
  | zero=>show ad P31 37 T37 Gu
  | succ n ih=>show ad ih 37 T37 (E3 rfl)
 have P39:=pmix P38 (A37 60) 37 (sp:=Fq 60) rfl 217;have A41:∀n:Nat,Prg P w K mg base (K,[Yi,Wa,Zn,Yx,Yb,W0 K,Y7 K,X2,X6,Td,V8,Yr,Sb,To,Yh K X.C,Zq,W8,Yq,X5,Zy,W3,Zt,Yt,Zx,Xk,X4,X3,bot,bot,bot,bot,bot,Yu,W9,bot,bot,bot,bot,Wb,Xc,bot,Ob n,bot],[.gtup [.str "else"],.gtup [.str "done"],.gtup [.str "choice",.str "round",.str "part"],.cls X.C]) FN GN BN (33+n+1):=by
  intro n;induction n with
  | zero=>show ad P31 41 T41 Z75
  | succ n ih=>show ad ih 41 T41 (Za6 rfl)
 have P40:=pmix P39 (A41 60) 41 (sp:=Ob 60) rfl 217;have P41:=ad P40 40 T40 (sp:=Q5) (Jx rfl rfl rfl rfl);show fn0 P41 T42.F Yo0 Yx8 (sp:=Z53) (by rintro _ _ _ _ ⟨_,rfl,_⟩;rfl) (Yy4 rfl rfl rfl rfl rfl rfl rfl rfl rfl rfl)
theorem Yh9{l:PySem.W.OpenLaw}{w:Ue}{fa f:Uc}{h:Uf}{oc kV dc pm cd ct:Ua}{od an:Option Uc}{sl:Array (Option Ua)}(hfa:mg "law"=↑fa)(X0:K.In h)(G:h.Ns mainGlobals mg)
  (a:Lu K mainGlobals "law"=some (↑f)) (l0:K.lookup f=some (oc,od,.func (Hh "law" "law" (X8 Em) (Y9 Em) (Zi Em) .none kV dc pm an cd ct),sl)) (c:Im K cd "law"=true) (k:Hg K (.ref f)=true) {ta0:Uc} {tn0:Nat} {tt0_0:Tok} {to0:Option Uc} {tl0:Array (Option Ua)} (u0:Lu K mainGlobals "ELSE"=some (↑ta0)) (v0:K.lookup ta0=some (.type "tuple",to0,.seq #[.str "else" tt0_0] tn0,tl0)) {ta1:Uc} {tn1:Nat} {tt1_0:Tok} {to1:Option Uc} {tl1:Array (Option Ua)} (u1:Lu K mainGlobals "DONE"=some (↑ta1)) (v1:K.lookup ta1=some (.type "tuple",to1,.seq #[.str "done" tt1_0] tn1,tl1)) {ta2:Uc} {tn2:Nat} {tt2_0 tt2_1 tt2_2:Tok} {to2:Option Uc} {tl2:Array (Option Ua)} (u2:Lu K mainGlobals "OPENERS"=some (↑ta2)) (v2:K.lookup ta2=some (.type "tuple",to2,.seq #[.str "choice" tt2_0,.str "round" tt2_1,.str "part" tt2_2] tn2,tl2)) (hz:∀x∈BN,Lu K mainGlobals x=some none)
  :∃fd:FuncData,(∀(s:Ub) (v:Ua),BindsTo s fd ([v],[]) [#v["_law_script",v]])/\∀base:Uf,K.In base->base.Ns mainGlobals mg->FnOk l.prog w K mg base (CX1 l.prog w) 219 fa fd ["_law_script"] (spF K Z53):=by
 have e2:=hfa.symm.trans (Mb X0 G a);cases e2;show(_,λs v=> .of_eq rfl,λbase _ _=>Ys6 T0 T1 T2 T3 T4 T7 T8 T9 T10 T11 T12 T13 T14 T15 T16 T17 T18 T19 T20 T21 T22 T23 T24 T25 T26 T27 T28 T29 T30 T31 T32 T33 T34 T35 T36 T37 T38 T39 T40 T41 X (DW.of X0 G a l0 c k) (_,Mb X0 G u0,_,_,_,v0,rfl,rfl,show 1<=sizeLine by decide,.cons (_,rfl) (.nil)) (_,Mb X0 G u1,_,_,_,v1,rfl,rfl,show 1<=sizeLine by decide,.cons (_,rfl) (.nil)) (_,Mb X0 G u2,_,_,_,v2,rfl,rfl,show 3<=sizeLine by decide,.cons (_,rfl) (.cons (_,rfl) (.cons (_,rfl) (.nil)))) λx hx=>PySem.W.mg_none_of X0 G (hz x hx))
end
end K61
open PySem PySem.W PyProof.Rows
set_option maxRecDepth 100000 in
theorem PySem.Challenge.cw_unjump_k61_tidy_shape_holds : PySem.Challenge.rw_unjump_k61_tidy_shape.Holds := by
 w_on;show holds_law Hand.wS λsaid=>?_;show holds_open (q:=Hand.qH) (loose:=Hand.lH) (Xt:=λs=>xlAt Hand.qH [] s&&recOk [] s) (XP:=XL Hand.qH []) (Yf:=Hook.obs (kHook Hand.KH Hand.aH Hand.eH)) (Ya:=Hook.val (kHook Hand.KH Hand.aH Hand.eH)) (YP:=Hook.says (kHook Hand.KH Hand.aH Hand.eH)) (N:=3340) Hand.hlH (Hook.of _) (Hook.keeps _) (λs e=>xl_of s (Bool.and_eq_true_iff.mp e).1) XL.keeps (by rfl) (by rfl) (by rfl) (λs e=>recFacts_of (Bool.and_eq_true_iff.mp e).2) (by rfl) (by first | assumption | decide+kernel) 'k' (rfl,rfl,rfl,rfl,rfl,'k') ?hw ?hc;(case hw=>w_witness2)
 k_fill
 show U.Zs0 (l:=PySem.Challenge.rw_unjump_k61_tidy_shape) (k:=219) (x:="_law_script") rfl rfl (rfl,'d','d') (λw h Y=>PySem.W.kIn_of Y) ?F
 case F=>
  intro w mg fa h KX G hmg
  refine' K61.Yh9 'x' 'x' 'x' 'x' 'x' 'x' 'x' 'x' 'x' 'x' 'x' 'x' 'x' 'x' 'x' 'x' 'x' 'x' 'x' 'x' 'x' 'x' 'x' 'x' 'x' 'x' 'x' 'x' 'x' 'x' 'x' 'x' 'x' 'x' 'x' 'x' 'x' 'x' 'x' 'x' (.of KX G _ _ _ _ _ _ _ _ _ _ _ _ _ _ _ _ _ _ _ _ _ _ _ _) hmg KX G _ _ _ _ _ _ _ _ _ _ (U.all_cons _ (U.all_cons _ (U.all_cons _ (U.all_cons _ (U.all_cons _ (U.all_cons _ (U.all_cons _ (U.all_cons _ (U.all_cons _ (U.all_cons _ (U.all_cons _ (U.all_cons _ (U.all_nil)))))))))))))
  all_goals (try k_is)
