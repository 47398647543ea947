import PyProof.Rows.All
import Wide.All
import OpenK.AllK
import Wide.FinOn
import Lean
import PyProof.EqAt
import PyProof.EqKinds
import PyProof.TupleCall
import PyProof.CompFree
import PyProof.StationsW
import PyProof.ExcClass3
import PyProof.Commute
import OpenK.KGet
import OpenK.KMeth
import PyProof.ExcArgs
import PyProof.ZipIter
import PyProof.ListNew
import PyProof.EnumMake
import PyProof.EnumStmt
import KE.KRevSl
import PyProof.WalkInts
import PyProof.Rows.MinMaxN
import PyProof.AttrMissHeap
import PyProof.DictList
import PyProof.DictUpdate
import KE.KDictOf
import PyProof.DictWalks
import PyProof.Conv_int_bool
import PyProof.Rows.SetFrom
import PyProof.SetRoads
import PyProof.ForAny
import KE.KDictSum
import PyProof.AutoListH
import KE.KRevIter
import KE.KDictList
import PyProof.ConsumeWalk
import PyProof.TupleIter
import PyProof.EnumIter
import PyProof.ZipIter
import PyProof.DictRoadsH
import PyProof.StrCalls2
import PyProof.StrWalks
import PyProof.StrLawsChain
import PyProof.CallStr
import KE.KIntText
import PyProof.StrLawsTight
import PyProof.StrLawsIn
import PyProof.Rows.CatFin
import PyProof.Rows.StrClose3
import KE.KxText
import KE.KStateDown
import PyProof.Rows.Range3
import PySem.Challenge.RW_unjump_k52_form_runs
open Bool renaming false_ne_true->Bf9, and_eq_true->Bz9
open PySem renaming wpAny_bind->Aa, wpAny_pure->Ai, wpAny_mono->Dy, wpAny_field->Fd, Spec->Hg, wpAny_holding->Hi, wpAny_Call_Name_kw->Hr, wpAny_newObj_type->Ht, wpAny_seqItems->Ib, wpAny_callSpecial?_slot->Ie, wpAny_loadPart_at->Iy, wpAny_standAt->Kb, codeAny_mono->Ki, tupleKind_room_in1->Kk, wpAny_passesOwn->Kn, sizeLine_eq->Kz, wpAny_call_entry->La, wpAny_comprehension_free->Lf, mem_of_lookup->Li, wpAny_isSubtype_exc->Lj, wpAny_setField_rec->Lr, wpAny_rule->Lu, wpAny_execs_nil->Lx, wpAny_typeOf->Ly, wpAny_call->Mc, call_meets->Md, wpAny_setField->Me
open PySem.W renaming Frag->Ab, keepIn->Dm, fnOf->Hj, kia_one->Hk, findIn->Ho, kitOne->Kd, codeIn->Kf, nsIn->Km, mg_of->Ku, clsIn->Lw
open List renaming getElem?_eq_some_iff->Ac, length_append->Ae, length_map->Af, getElem?_eq_getElem->Ag, length_singleton->Ak, size_toArray->Al, mem_singleton->Am, mem_cons->An, getElem?_map->Ao, length_cons->Ar, append_assoc->As, mem_cons_of_mem->Av, map_append->Aw, mem_of_getElem?->Ax, mem_append_right->Ay, mem_append->Az, mem_cons_self->Bs, getElem?_set_ne->Db, map_cons->De, not_mem_nil->Df, getElem?_eq_none->Dh, getElem?_set_self->Di, reverse_append->Dl, getElem?_append_left->Dn, getElem?_eq_none_iff->Dp, replicate->Ds, getElem?_append_right->Dt, append_nil->Du, length_set->Dx, drop_eq_getElem_cons->Dz, lookup_cons->Ha, getD_eq_getElem?_getD->Hb, set->He, find?_cons->Hl, all_eq_true->Hm, contains_iff_mem->Hq, all_cons->Hs, cons_append->Hx, mem_map->Hy, getElem_mem->Hz, length_eq_zero_iff->Ig, replicate_succ->Ii, length_reverse->Ij, range->Ik, mem_range->Il, eq_nil_or_concat->Io, concat_eq_append->Ip, nil_append->Ir, map_nil->Iu, prefix_rfl->Iw, reverse_cons->Ix, any_cons->Ka, length_take->Ke, nodup_cons->Ko, foldl_cons->Kq, flatten_cons->Kv, mem_append_left->Kw, pairwise_append->Ky, any_eq_true->Le, take_length->Lg, filterMap_cons->Lh, pairwise_singleton->Lp, forIn_cons->Lq, drop_eq_nil_of_le->Ls, getElem?_mapIdx->Lv, length->Mh
open PySem.Heap renaming get?_push_of_some->Ah, lt_size->Aj, get?_push_size->Aq, get?_update_other->Dk, get?_update_self->Dv, SameBut->Hv, size_push->Ia
open Ne renaming symm->Au
open False renaming elim->Bk
open Option renaming map_eq_some_iff->Ch, isSome_iff_exists->Hw, bind_eq_some_iff->Ih
open Option.some renaming inj->Dg
open PySem.NameKind renaming free->Dj, cell->Hf
open Sum renaming inr->Dq, inl->Hn
open PySem.SeqAt renaming EqAt->Dw
open PySem.Builtin.SmallTypes renaming nextOf->Hd, ownedTupleIsFree->Ic
open PyProof.Rows renaming slot_tuple_getitem->Hh, callWith_type1->Kh
open True renaming intro->Hu
open PySem.Obj renaming data_mapFields->Im, mapSeq->Kg, isFreed_of_fields->Kr, mapFields->Kt
open Array renaming length_toList->Kc
open LawfulBEq renaming eq_of_beq->Kj
open PySem.Builtin.List renaming listExtendWith->Kl, listTooLong->Ld
open PySem.Builtin.Slice renaming slicePlaces->Kx
open PySem.Builtin.Tuple renaming tupleExact->Lc
open PySem.Heap.SameBut renaming update->Ll
open PySem.Builtin.Str renaming occurrences->Lm
open PySem.Txt renaming slice->Lz
open PySem.Builtin renaming bitAnd->Ma, bitXor->Mb
open Iff renaming rfl->Mf
open Sum.inl renaming inj->Mg
open PySem.Data renaming dict->Mi
set_option tactic.hygienic false
set_option bootstrap.genMatcherCode false
set_option Elab.async false
set_option linter.all false
set_option maxRecDepth 100000
set_option genSizeOf false
set_option genInjectivity false
set_option compiler.extract_closed false
set_option autoImplicit true
set_option maxHeartbeats 0
namespace L2
open PySem
noncomputable def Yr(s:Stmt):Arguments:=match s with
 | .FunctionDef _ a _ _ _ _ _ _ _ _=>a
 | _=>{posonlyargs:=[],args:=[],vararg:=none,kwonlyargs:=[],kw_defaults:=[],kwarg:=none,defaults:=[]}
noncomputable def Zr(s:Stmt):List Stmt:=match s with
 | .FunctionDef _ _ b _ _ _ _ _ _ _=>b
 | _=>[]
noncomputable def Zc(s:Stmt):Scope:=match s with
 | .FunctionDef _ _ _ _ _ _ a _ _ _=>a
 | _=>{kind:= .function,names:=[],isGenerator:=false,isCoroutine:=false}
end L2
namespace K52
open PySem
noncomputable def top(i:Nat):Stmt:=PySem.Challenge.pw_unjump_k52_form_runs.main.body.getD i (.Pass ⟨0,0,0,0⟩)
end K52
namespace Hand
open PySem PySem.Spec PyProof.Rows L2 K52
noncomputable def kf(n:Str)(i:Nat)(dV kV dc pm:Value)(an:Option Addr)(cd ct:Value):Obj:=⟨.type "function",none,.func (Hj n n (Yr (top i)) (Zr (top i)) (Zc (top i)) dV kV dc pm an cd ct),#[]⟩
noncomputable def kg(n:Str)(i:Nat)(m:Str)(t c:Nat):Obj:=kf n i .none .none .none (.str m t) none (.ref c) .none
noncomputable def kl(n:Str)(i c:Nat):Obj:=kg n i "law_unjump_k52_form_runs" 465 c
noncomputable def kc(n:Str)(t:Nat)(l a:Int)(r:Nat)(x y:Int)(z:Nat):Obj:=⟨.type "code",none,.fields #[.str n t,.str n (t+1),.str "/claim/cut.py" (t+2),.int l 0,.int a 0,.int 0 0,.int 0 0,.int 3 0,.ref r,.bool true,.int x 0,.ref (r+1),.none,.ref (r+2),.ref (r+3),.ref (r+4),.int y 0,.int l 0,.str "/claim/cut.py" z],#[]⟩
noncomputable def ke(P:Params)(x:Str)(t:Nat)(v:Value):DictEntry:=⟨PyData.keyHash P x,.str x t,v⟩
noncomputable abbrev kd:Value:= .type "dict"
noncomputable abbrev kR(a:Nat):Value:= .ref a
noncomputable abbrev kS(x:Str)(t:Nat):Value:= .str x t
noncomputable def KH(P:Params):Ab:=(nat_lit 2,⟨.none,none,.dict #[] 0,#[]⟩)::(nat_lit 3,⟨kd,none,.dict #[ke P "__name__" 165 (kS "law_unjump_k52_form_runs" 465),ke P "__doc__" 166 .none,ke P "__package__" 167 .none,ke P "__loader__" 168 (.builtin "__main__.__loader__#opaque"),ke P "__spec__" 169 .none,ke P "__annotations__" 170 (kR 6),ke P "__builtins__" 171 (kR 4),ke P "__file__" 173 (kS "/claim/cut.py" 172),ke P "__cached__" 174 .none,ke P "ELSE" 190 (kR 15),ke P "DONE" 192 (kR 16),ke P "OPENERS" 196 (kR 17),ke P "lines_of" 206 (kR 24),ke P "line_of" 213 (kR 31),ke P "told_within" 222 (kR 38),ke P "rows_of" 230 (kR 43),ke P "begin_rows" 240 (kR 50),ke P "begin_no" 249 (kR 57),ke P "finish_rows" 260 (kR 64),ke P "with_goal" 268 (kR 71),ke P "JumpError" 297 (kR 89),ke P "ByNought" 313 (kR 102),ke P "made" 324 (kR 111),ke P "quotient" 332 (kR 118),ke P "rest" 340 (kR 125),ke P "holds" 349 (kR 132),ke P "worth" 357 (kR 139),ke P "deed_of_sum" 370 (kR 146),ke P "deed_of_test" 382 (kR 153),ke P "run_from" 399 (kR 160),ke P "deed_of" 407 (kR 167),ke P "behind" 416 (kR 174),ke P "linked" 424 (kR 179),ke P "landings" 438 (kR 186),ke P "run" 452 (kR 194),ke P "run_form" 464 (kR 202),ke P "_law_raw" 474 (kR 209),ke P "_law_mix" 483 (kR 216),ke P "_law_kept" 489 (kR 223),ke P "_law_sign" 497 (kR 230),ke P "_law_word" 507 (kR 237),ke P "_law_names" 521 (kR 244),ke P "_law_operand" 532 (kR 251),ke P "_law_begins" 539 (kR 258),ke P "_law_deed" 553 (kR 265),ke P "_law_goes" 559 (kR 270),ke P "_law_first" 567 (kR 277),ke P "_law_close" 576 (kR 284),ke P "_law_step" 589 (kR 291),ke P "_law_lines" 601 (kR 298),ke P "_law_nested" 613 (kR 305),ke P "_law_marks" 624 (kR 312),ke P "_law_next" 634 (kR 319),ke P "_law_comes" 644 (kR 326),ke P "_law_no" 653 (kR 333),ke P "_law_alike" 663 (kR 340),ke P "_law_memory" 674 (kR 347),ke P "_law_same_memory" 683 (kR 354),ke P "_law_worth" 691 (kR 361),ke P "_law_made" 700 (kR 368),ke P "_law_done" 710 (kR 375),ke P "_law_run" 723 (kR 382),ke P "_law_fits" 731 (kR 389),ke P "law" 747 (kR 396)] 64,#[]⟩)::(nat_lit 15,⟨(.type "tuple"),none,.seq #[(.str "else" 189)] 0,#[]⟩)::(nat_lit 16,⟨(.type "tuple"),none,.seq #[(.str "done" 191)] 0,#[]⟩)::(nat_lit 17,⟨(.type "tuple"),none,.seq #[(.str "choice" 193),(.str "round" 194),(.str "part" 195)] 0,#[]⟩)::(nat_lit 23,kc "lines_of" 197 5 1 18 181 204 205)::(nat_lit 24,kg "lines_of" 4 "unjump.forms" 187 23)::(nat_lit 30,kc "line_of" 207 13 1 25 181 211 212)::(nat_lit 31,kg "line_of" 5 "unjump.forms" 187 30)::(nat_lit 37,kc "told_within" 214 19 1 32 181 220 221)::(nat_lit 38,kg "told_within" 6 "unjump.forms" 187 37)::(nat_lit 42,⟨(.type "code"),none,.fields #[(.str "rows_of" 225),(.str "rows_of" 226),(.str "/claim/cut.py" 227),(.int 29 0),(.int 1 0),(.int 0 0),(.int 0 0),(.int 3 0),(.ref 39),(.bool true),(.int 181 0),(.ref 40),.none,.none,.none,(.ref 41),(.int 228 0),(.int 29 0),(.str "/claim/cut.py" 229)],#[]⟩)::(nat_lit 43,kg "rows_of" 8 "unjump.flat" 223 42)::(nat_lit 49,kc "begin_rows" 231 46 3 44 181 238 239)::(nat_lit 50,kg "begin_rows" 9 "unjump.flat" 223 49)::(nat_lit 56,kc "begin_no" 241 55 3 51 181 247 248)::(nat_lit 57,kg "begin_no" 10 "unjump.flat" 223 56)::(nat_lit 63,kc "finish_rows" 250 58 3 58 181 258 259)::(nat_lit 64,kg "finish_rows" 11 "unjump.flat" 223 63)::(nat_lit 70,kc "with_goal" 261 67 2 65 181 266 267)::(nat_lit 71,kg "with_goal" 12 "unjump.flat" 223 70)::(nat_lit 79,⟨(.type "tuple"),none,.seq #[.none] 0,#[]⟩)::(nat_lit 85,⟨(.type "code"),none,.fields #[(.str "__init__" 283),(.str "JumpError.__init__" 284),(.str "/claim/cut.py" 285),(.int 74 0),(.int 2 0),(.int 0 0),(.int 0 0),(.int 3 0),(.ref 80),(.bool true),(.int 181 0),(.ref 81),.none,(.ref 82),(.ref 83),(.ref 84),(.int 288 0),(.int 74 0),(.str "/claim/cut.py" 289)],#[]⟩)::(nat_lit 86,{cls:=Value.type "function",data:=Data.func {name:=Str.ofString "__init__",qualname:=Str.ofString "JumpError.__init__",params:={posonlyargs:=[],args:=[{arg:=Str.ofString "self",annotation:=none,pos:={line:=74,col:=17,endLine:=74,endCol:=21}},{arg:=Str.ofString "row",annotation:=none,pos:={line:=74,col:=23,endLine:=74,endCol:=26}}],vararg:=none,kwonlyargs:=[],kw_defaults:=[],kwarg:=none,defaults:=[Expr.Constant Const.none 0 {line:=74,col:=27,endLine:=74,endCol:=31}]},body:=FuncBody.stmts [Stmt.Assign [(Expr.Name (Str.ofString "self") {line:=75,col:=8,endLine:=75,endCol:=12}).Attribute (Str.ofString "row") {line:=75,col:=8,endLine:=75,endCol:=16}] (Expr.Name (Str.ofString "row") {line:=75,col:=19,endLine:=75,endCol:=22}) {line:=75,col:=8,endLine:=75,endCol:=22}],scope:={kind:=ScopeKind.function,names:=[(Str.ofString "self",NameKind.local),(Str.ofString "row",NameKind.local)],isGenerator:=false,isCoroutine:=false},globals:=3,closure:=[],defaults:=Value.ref 79,kwdefaults:=Value.none,pyModule:=Value.str (Str.ofString "unjump.errors") 269,code:=Value.ref 85}})::(nat_lit 87,⟨(.type "tuple"),none,.seq #[(.str "row" 291)] 0,#[]⟩)::(nat_lit 88,⟨kd,none,.dict #[ke P "__module__" 278 (kS "unjump.errors" 269),ke P "__firstlineno__" 282 (.int 72 281),ke P "__init__" 290 (kR 86),ke P "__static_attributes__" 292 (kR 87),ke P "__weakref__" 294 (kR 90),ke P "__doc__" 295 .none] 3,#[]⟩)::(nat_lit 89,{cls:=Value.type "type",data:=Data.cls {name:=Str.ofString "JumpError",bases:=[Value.type "ValueError"],mro:=[Value.ref 89,Value.type "ValueError",Value.type "Exception",Value.type "BaseException",Value.type "object"],ns:=88,qualname:=Str.ofString "JumpError",subclasses:=[Value.ref 102]},slots:=#[some (Value.ref 72),none,some (Value.str (Str.ofString "JumpError") 271),some (Value.str (Str.ofString "JumpError") 279),some (Value.builtin "ValueError.__new__"),some (Value.bool true)]})::(nat_lit 100,⟨(.type "tuple"),none,.seq #[] 0,#[]⟩)::(nat_lit 101,⟨kd,none,.dict #[ke P "__module__" 305 (kS "unjump.errors" 269),ke P "__firstlineno__" 309 (.int 76 308),ke P "__static_attributes__" 310 (kR 100),ke P "__doc__" 311 .none] 2,#[]⟩)::(nat_lit 102,{cls:=Value.type "type",data:=Data.cls {name:=Str.ofString "ByNought",bases:=[Value.ref 89],mro:=[Value.ref 102,Value.ref 89,Value.type "ValueError",Value.type "Exception",Value.type "BaseException",Value.type "object"],ns:=101,qualname:=Str.ofString "ByNought"},slots:=#[some (Value.ref 93),none,some (Value.str (Str.ofString "ByNought") 298),some (Value.str (Str.ofString "ByNought") 306),some (Value.builtin "ValueError.__new__"),some (Value.bool true)]})::(nat_lit 110,kc "made" 316 79 3 105 181 322 323)::(nat_lit 111,kg "made" 17 "unjump.sums" 314 110)::(nat_lit 117,kc "quotient" 325 91 2 112 181 330 331)::(nat_lit 118,kg "quotient" 18 "unjump.sums" 314 117)::(nat_lit 124,kc "rest" 333 95 2 119 181 338 339)::(nat_lit 125,kg "rest" 19 "unjump.sums" 314 124)::(nat_lit 131,kc "holds" 341 99 3 126 181 347 348)::(nat_lit 132,kg "holds" 20 "unjump.sums" 314 131)::(nat_lit 138,kc "worth" 350 103 2 133 181 355 356)::(nat_lit 139,kg "worth" 21 "unjump.sums" 314 138)::(nat_lit 145,kc "deed_of_sum" 358 107 5 140 181 368 369)::(nat_lit 146,kg "deed_of_sum" 22 "unjump.sums" 314 145)::(nat_lit 152,kc "deed_of_test" 371 111 4 147 181 380 381)::(nat_lit 153,kg "deed_of_test" 23 "unjump.sums" 314 152)::(nat_lit 159,kc "run_from" 385 116 4 154 181 397 398)::(nat_lit 160,kg "run_from" 25 "unjump.nodes" 383 159)::(nat_lit 166,kc "deed_of" 400 129 2 161 181 405 406)::(nat_lit 167,kg "deed_of" 26 "unjump.nodes" 383 166)::(nat_lit 173,kc "behind" 408 133 3 168 181 414 415)::(nat_lit 174,kg "behind" 27 "unjump.nodes" 383 173)::(nat_lit 178,⟨(.type "code"),none,.fields #[(.str "linked" 419),(.str "linked" 420),(.str "/claim/cut.py" 421),(.int 139 0),(.int 1 0),(.int 0 0),(.int 0 0),(.int 3 0),(.ref 175),(.bool true),(.int 181 0),(.ref 176),.none,.none,.none,(.ref 177),(.int 422 0),(.int 139 0),(.str "/claim/cut.py" 423)],#[]⟩)::(nat_lit 179,kg "linked" 29 "unjump.graphs" 417 178)::(nat_lit 185,kc "landings" 425 153 2 180 181 436 437)::(nat_lit 186,kg "landings" 30 "unjump.graphs" 417 185)::(nat_lit 187,⟨(.type "tuple"),none,.seq #[(.int 100 441)] 0,#[]⟩)::(nat_lit 193,kc "run" 442 167 3 188 181 450 451)::(nat_lit 194,kf "run" 32 (.ref 187) .none .none (.str "unjump.running" 439) none (.ref 193) .none)::(nat_lit 195,⟨(.type "tuple"),none,.seq #[(.int 100 455)] 0,#[]⟩)::(nat_lit 201,kc "run_form" 456 171 3 196 181 462 463)::(nat_lit 202,kf "run_form" 34 (.ref 195) .none .none (.str "unjump.formruns" 453) none (.ref 201) .none)::(nat_lit 208,kc "_law_raw" 467 174 2 203 181 472 473)::(nat_lit 209,kl "_law_raw" 36 208)::(nat_lit 215,kc "_law_mix" 475 178 2 210 181 481 482)::(nat_lit 216,kl "_law_mix" 37 215)::(nat_lit 222,kc "_law_kept" 484 183 0 217 181 487 488)::(nat_lit 223,kl "_law_kept" 38 222)::(nat_lit 229,kc "_law_sign" 490 185 2 224 181 495 496)::(nat_lit 230,kl "_law_sign" 39 229)::(nat_lit 236,kc "_law_word" 498 189 2 231 181 505 506)::(nat_lit 237,kl "_law_word" 40 236)::(nat_lit 243,kc "_law_names" 508 195 1 238 181 519 520)::(nat_lit 244,kl "_law_names" 41 243)::(nat_lit 250,kc "_law_operand" 522 211 4 245 181 530 531)::(nat_lit 251,kl "_law_operand" 42 250)::(nat_lit 257,kc "_law_begins" 533 222 1 252 181 537 538)::(nat_lit 258,kl "_law_begins" 43 257)::(nat_lit 264,kc "_law_deed" 540 224 4 259 181 551 552)::(nat_lit 265,kl "_law_deed" 44 264)::(nat_lit 269,⟨(.type "code"),none,.fields #[(.str "_law_goes" 554),(.str "_law_goes" 555),(.str "/claim/cut.py" 556),(.int 233 0),(.int 2 0),(.int 0 0),(.int 0 0),(.int 3 0),(.ref 266),(.bool true),(.int 181 0),(.ref 267),.none,.none,.none,(.ref 268),(.int 557 0),(.int 233 0),(.str "/claim/cut.py" 558)],#[]⟩)::(nat_lit 270,kl "_law_goes" 45 269)::(nat_lit 276,kc "_law_first" 560 241 1 271 181 565 566)::(nat_lit 277,kl "_law_first" 46 276)::(nat_lit 283,kc "_law_close" 568 244 2 278 181 574 575)::(nat_lit 284,kl "_law_close" 47 283)::(nat_lit 290,kc "_law_step" 577 250 4 285 181 587 588)::(nat_lit 291,kl "_law_step" 48 290)::(nat_lit 297,kc "_law_lines" 590 269 2 292 181 599 600)::(nat_lit 298,kl "_law_lines" 49 297)::(nat_lit 304,kc "_law_nested" 602 279 1 299 181 611 612)::(nat_lit 305,kl "_law_nested" 50 304)::(nat_lit 311,kc "_law_marks" 614 298 1 306 181 622 623)::(nat_lit 312,kl "_law_marks" 51 311)::(nat_lit 318,kc "_law_next" 625 314 3 313 181 632 633)::(nat_lit 319,kl "_law_next" 52 318)::(nat_lit 325,kc "_law_comes" 635 325 3 320 181 642 643)::(nat_lit 326,kl "_law_comes" 53 325)::(nat_lit 332,kc "_law_no" 645 331 3 327 181 651 652)::(nat_lit 333,kl "_law_no" 54 332)::(nat_lit 339,kc "_law_alike" 654 335 2 334 181 661 662)::(nat_lit 340,kl "_law_alike" 55 339)::(nat_lit 346,kc "_law_memory" 664 352 2 341 181 672 673)::(nat_lit 347,kl "_law_memory" 56 346)::(nat_lit 353,kc "_law_same_memory" 675 361 2 348 181 681 682)::(nat_lit 354,kl "_law_same_memory" 57 353)::(nat_lit 360,kc "_law_worth" 684 368 2 355 181 689 690)::(nat_lit 361,kl "_law_worth" 58 360)::(nat_lit 367,kc "_law_made" 692 372 3 362 181 698 699)::(nat_lit 368,kl "_law_made" 59 367)::(nat_lit 374,kc "_law_done" 701 386 2 369 181 708 709)::(nat_lit 375,kl "_law_done" 60 374)::(nat_lit 381,kc "_law_run" 711 392 3 376 181 721 722)::(nat_lit 382,kl "_law_run" 61 381)::(nat_lit 388,kc "_law_fits" 724 412 2 383 181 729 730)::(nat_lit 389,kl "_law_fits" 62 388)::(nat_lit 395,kc "law" 732 418 1 390 181 745 746)::(nat_lit 396,kl "law" 63 395)::[]
noncomputable def qH:Program:={PySem.Challenge.pw_unjump_k52_form_runs with main:={PySem.Challenge.pw_unjump_k52_form_runs.main with body:=[top 63]}}
noncomputable def lH:List Str:="ELSE"::"DONE"::"OPENERS"::"lines_of"::"line_of"::"told_within"::"rows_of"::"begin_rows"::"begin_no"::"finish_rows"::"with_goal"::"JumpError"::"ByNought"::"made"::"quotient"::"rest"::"holds"::"worth"::"deed_of_sum"::"deed_of_test"::"run_from"::"deed_of"::"behind"::"linked"::"landings"::"run"::"run_form"::"_law_raw"::"_law_mix"::"_law_kept"::"_law_sign"::"_law_word"::"_law_names"::"_law_operand"::"_law_begins"::"_law_deed"::"_law_goes"::"_law_first"::"_law_close"::"_law_step"::"_law_lines"::"_law_nested"::"_law_marks"::"_law_next"::"_law_comes"::"_law_no"::"_law_alike"::"_law_memory"::"_law_same_memory"::"_law_worth"::"_law_made"::"_law_done"::"_law_run"::"_law_fits"::[]
noncomputable def aH:List Addr:=2::3::15::16::17::23::24::30::31::37::38::42::43::49::50::56::57::63::64::70::71::79::85::86::87::88::89::100::101::102::110::111::117::118::124::125::131::132::138::139::145::146::152::153::159::160::166::167::173::174::178::179::185::186::187::193::194::195::201::202::208::209::215::216::222::223::229::230::236::237::243::244::250::251::257::258::264::265::269::270::276::277::283::284::290::291::297::298::304::305::311::312::318::319::325::326::332::333::339::340::346::347::353::354::360::361::367::368::374::375::381::382::388::389::395::396::[]
theorem eH(P:Params):aH=(KH P).map (·.1):=by kernel_rfl
theorem wS:PySem.Challenge.rw_unjump_k52_form_runs.wellSaid=true:=by kernel_rfl
theorem hlH:PySem.W.LeftO PySem.Challenge.pw_unjump_k52_form_runs qH lH (fun s=>PySem.W.xlAt qH [] s&&PySem.W.recOk [] s) (PySem.W.Hook.obs (PySem.W.kHook KH aH eH)) (PySem.W.Hook.val (PySem.W.kHook KH aH eH)) 4398:=by intro w;kernel_rfl
end Hand
def tmI(x:Lean.TSyntax `term):Lean.MacroM (Lean.TSyntax `term):=do
 if x.raw.isNatLit?.isSome then return<-`(.int $x)
 if x.raw.isStrLit?.isSome then return<-`(.str $x)
 let s:=x.raw.getId.toString
 if x.raw.isIdent&&s.front=='v'&&(s.drop 1).all Char.isDigit then return<-`(.var $(Lean.Syntax.mkNumLit (s.drop 1).toString))
 return x
def rcP:Nat->Lean.Syntax->Lean.MacroM (Lean.TSyntax `rcasesPat)
 | 0,_=>Lean.Macro.throwUnsupported
 | n+1,x=>do
  if x.isOfKind `Lean.Parser.Term.anonymousCtor then
   let a<-x[1].getSepArgs.mapM fun y=>do `(Lean.Parser.Tactic.rcasesPatLo| $(<-rcP n y):rcasesPat)
   `(rcasesPat| ⟨$a,*⟩)
  else if x.isOfKind `Lean.Parser.Term.hole then `(rcasesPat| _)
  else if x.isIdent then `(rcasesPat| $(Lean.mkIdentFrom x x.getId):ident)
  else Lean.Macro.throwUnsupported
local macro_rules | `(tactic| let ⟨$x,*⟩:=$v)=>do `(tactic| obtain $(<-rcP 9 (<-`(⟨$x,*⟩))):rcasesPat := $v)
local macro_rules | `(⇑$X)=>`(PySem.wpAny (PySem.model ($X).prog ($X).w) ($X).A)
set_option hygiene false
local macro_rules | `(tactic| left)=>`(tactic| exact absurd h Bf9)
set_option hygiene true
abbrev VSP:=PySem.Value->PySem.Shared->Prop
abbrev PLO:=List (PySem.Addr×PySem.Obj)
local macro_rules | `(tactic| show $t)=>`(tactic| exact $t)
abbrev LS:=List PySem.Str
abbrev LW:=List PySem.Value
abbrev LQ:=List Nat
open PySem renaming Value→Ua, Shared→Ub, Addr→Uc, Program→Ud, World→Ue, Heap→Uf
def nc:=@Nat.le_refl
def ng:=@if_neg
def nh:=@if_pos
def ni:=@Nat.lt_of_lt_of_le
def nj:=@Nat.le_trans
def nk:=@Nat.ne_of_lt
def nl:=@Nat.zero_le
def nq:=@Nat.ne_of_gt
def nu:=@Nat.lt_irrefl
def nv:=@Int.emod_lt_of_pos
def nw:=@Int.emod_nonneg
def ny:=@Nat.le_of_lt
def ma:=@Nat.lt_of_le_of_lt
def mf:=@decide_eq_false
def mh:=@Nat.le_succ
local macro_rules | `(↥$x)=>`(by simpa using $x)
local macro_rules | `($x⁻¹)=>`(($x).heap.objs.size)
local macro_rules | `('d')=>`(by decide)
local macro_rules | `('o')=>`(by lia)
local macro_rules | `('k')=>`(by decide+kernel)
local macro_rules | `(tactic| symm)=>`(tactic| try walk_at "ew")
local macro_rules | `(tactic| rfl')=>`(tactic| try walk_at "ev")
local macro_rules | `(↑$x)=>`(some (.ref $x))
local macro_rules (kind:=Lean.Parser.Command.declaration) | s=>do
 unless s[0][4].getNumArgs==0&&(s[1].getKind==`Lean.Parser.Command.definition||s[1].getKind==`Lean.Parser.Command.abbrev) do Lean.Macro.throwUnsupported
 return s.setArg 0 (s[0].setArg 4 (<-`(command| noncomputable def x:=0)).raw[0][4])
namespace L2
open PySem PySem.Spec PyProof.Rows
abbrev Key:=Sum Int Str
def Zd6:Key->Ua->Bool
 | .inl k,v=>Value.isInt k v
 | .inr x,v=>Value.isStrOf x v
def keyH(w:Ue):Key->Int
 | .inl k=>hashInt k
 | .inr x=>hashStr w x
def Zu:∀{k:Key} {v:Ua},Zd6 k v=true->(∃i t,k=Hn i/\v=Value.int i t)\/(∃x t,k=Dq x/\v=Value.str x t)
 | .inl i,v,h=>by
  let⟨t,e⟩:=Value.isInt_shape (k:=i) (v:=v) h
  show .inl ⟨i,t,rfl,e⟩
 | .inr x,v,h=>by
  let⟨t,e⟩:=Value.isStrOf_shape (x:=x) (v:=v) h
  show .inr ⟨x,t,rfl,e⟩
def Zh7(i:Int)(t:Tok):Zd6 (.inl i) (.int i t)=true:=by simp[Zd6,Value.isInt]
def Zn2(x:Str)(t:Tok):Zd6 (.inr x) (.str x t)=true:=by simp[Zd6,Value.isStrOf]
def Yt4(a b:Int):decide ((Hn a:Key)=Hn b)=(a==b):=by
 by_cases e:a=b
 .subst e;simp
 .have h:¬(Hn a:Key)=Hn b:=fun q=>e (Mg q)
  rw[mf h]
  show(beq_eq_false_iff_ne.mpr e).symm
def Yl6(a b:Str):decide ((Dq a:Key)=Dq b)=decide (a=b):=by
 by_cases e:a=b
 .subst e;simp
 .have h:¬(Dq a:Key)=Dq b:=fun q=>e (Dq.inj q)
  rw[mf h,mf e]
def Yk8(a:Int)(b:Str):decide ((Hn a:Key)=Dq b)=false:=mf (fun q=>nomatch q)
def Yr8(a:Str)(b:Int):decide ((Dq a:Key)=Hn b)=false:=mf (fun q=>nomatch q)
def Zp(prog:Ud)(w:Ue):PySem.KeyKind prog w Key where
 is:=Zd6
 hash:=keyH w
 inj:=fun v a b g d=>by
  rcases Zu g with⟨i,t,rfl,rfl⟩ | ⟨x,t,rfl,rfl⟩
  .rcases Zu d with⟨j,u,rfl,e⟩ | ⟨y,u,rfl,e⟩
   .injection e with e1 _;rw[e1]
   .exact nomatch e
  .rcases Zu d with⟨j,u,rfl,e⟩ | ⟨y,u,rfl,e⟩
   .exact nomatch e
   .injection e with e1 _;rw[e1]
 byValue:=fun k v h=>by
  rcases Zu h with⟨i,t,rfl,rfl⟩ | ⟨x,t,rfl,rfl⟩<;>rfl
 pyHash:=fun c h=>by
  rcases Zu c with⟨i,t,rfl,rfl⟩ | ⟨x,t,rfl,rfl⟩
  .exact wpAny_pyHash_int h
  .exact wpAny_pyHash_str h
 eqBool:=fun f c h=>by
  rcases Zu f with⟨i,t,rfl,rfl⟩ | ⟨x,t,rfl,rfl⟩
  .rcases Zu c with⟨j,u,rfl,rfl⟩ | ⟨y,u,rfl,rfl⟩
   .rw[Yt4] at h;show wpAny_eqBool_int h
   .rw[Yk8] at h;show Dw.int_str i t y u _ _ _ _ h
  .rcases Zu c with⟨j,u,rfl,rfl⟩ | ⟨y,u,rfl,rfl⟩
   .rw[Yr8] at h;show Dw.str_int x t j u _ _ _ _ h
   .rw[Yl6] at h;show wpAny_eqBool_str h
 «strs»:=fun k x t v h=>by
  rcases Zu h with⟨i,u,rfl,e⟩ | ⟨y,u,rfl,e⟩
  .exact nomatch e
  .injection e with e1 _
   subst e1
   cases v<;>rfl
def B3(prog:Ud)(w:Ue)(i:Int)(t:Tok):(Zp prog w).is (.inl i) (.int i t)=true:=Zh7 i t
def Ce(prog:Ud)(w:Ue)(x:Str)(t:Tok):(Zp prog w).is (.inr x) (.str x t)=true:=Zn2 x t
set_option genInjectivity true in
inductive V where
 | non | bl (b:Bool) | int (i:Int) | str (x:Str) | byt (b:Array UInt8) | flt (b:UInt64) | ref (a:Uc) | ty (n:String)
 deriving DecidableEq
abbrev LV:=List V
def RelV:V->Ua->Prop
 | .non,u=>u=Value.none
 | .bl b,u=>u=Value.bool b
 | .int i,u=>∃t,u=Value.int i t
 | .str x,u=>∃t,u=Value.str x t
 | .byt b,u=>∃t,u=Value.bytes b t
 | .flt b,u=>∃t,u=Value.float b t
 | .ref a,u=>u=Value.ref a
 | .ty n,u=>u=Value.type n
abbrev Vals:LV->LW->Prop:=Paired RelV
def Vals.length{xs:LV}{us:LW}(r:Vals xs us):xs.length=us.length:=Paired.length r
def Vals.get:∀{xs:LV} {us:LW} {i:Nat} {x:V},Vals xs us->xs[i]?=some x->∃u,us[i]?=some u/\RelV x u
 | _,_,_,_,.nil,e=>by simp at e
 | _,_,0,_,.cons r _,e=>by simp at e;subst e;show⟨_,rfl,r⟩
 | _,_,i+1,x,.cons _ t,e=>by
  let⟨u,b,a⟩:=Vals.get (i:=i) (x:=x) t ↥e
  show⟨u,↥b,a⟩
def Vals.set{x:V}{u:Ua}(r:RelV x u):∀{xs:LV} {us:LW} (i:Nat),Vals xs us->Vals (xs.set i x) (us.set i u)
 | _,_,_,.nil=> .nil
 | _,_,0,.cons _ t=> .cons r t
 | _,_,i+1,.cons q t=> .cons q (Vals.set r i t)
def Vals.append:∀{xs ys:LV} {us a:LW},Vals xs us->Vals ys a->Vals (xs++ys) (us++a):=by
 intro xs ys us a h s
 induction h with
 | nil=>show s
 | cons r t ih=>show .cons r ih
def Vals.take:∀{xs:LV} {us:LW} (n:Nat),Vals xs us->Vals (xs.take n) (us.take n)
 | _,_,0,_=> .nil
 | _,_,_+1,.nil=> .nil
 | _,_,n+1,.cons r t=> .cons r (Vals.take n t)
def Vals.drop:∀{xs:LV} {us:LW} (n:Nat),Vals xs us->Vals (xs.drop n) (us.drop n)
 | _,_,0,r=>r
 | _,_,_+1,.nil=> .nil
 | _,_,n+1,.cons _ t=>Vals.drop n t
def RelO:Option V->Option Ua->Prop
 | some v,some u=>RelV v u
 | none,none=>True
 | _,_=>False
def KV{a:Type}:List (a×V)->List (a×Ua)->Prop:=Paired fun(p:a×V) (q:a×Ua)=>p.1=q.1/\RelV p.2 q.2
def kV:Key->V
 | .inl i=> .int i
 | .inr x=> .str x
inductive HO where
 | lst (xs:LV)
 | tup (xs:LV)
 | dK (kvs:List (Key×V)) | dT (kvs:List (List Key×V))
 | set (S:Int->Bool) (n:Nat)
 | ins (C dx:Uc) (fs:List (Str×V))
 | own (x:Uc)
 | xd (fs:List (Str×V))
 | met (f x:Uc)
 | rng (lo hi:Int)
 | frz (o:Obj) (u:HO)
 | tbl (ps:Array Ua)
 | ext (φ:Uf->Prop)
abbrev Hp:=Uc->Option HO
def upd(H:Hp)(a:Uc)(o:HO):Hp:=fun b=>if b=a then some o else H b
def Zl{H:Hp}{a:Uc}{o:HO}:upd H a o a=some o:=by unfold upd;rw[nh rfl]
def Z6{H:Hp}{a b:Uc}{o:HO}(h:b≠a):upd H a o b=H b:=by unfold upd;rw[ng h]
def Ys6{H:Hp}{a b:Uc}{o u:HO}(h:H a=some o)(h':H b=some u)(d:o≠u):a≠b:=by
 intro e;subst e;rw[h] at h';show d (Dg h')
def Xh{H:Hp}{a b:Uc}{o:HO}(h:H a=some o)(h':H b=none):a≠b:=by
 intro e;subst e;rw[h] at h';cases h'
section
variable(P:Ud)(w:Ue)
def Yc(H:Hp)(h:Uf)(a:Uc):HO->Prop
 | .lst d=>d.length<=sizeLine/\∃(c:LW) (n:Nat),Vals d c/\h.get? a=some {cls:= .type "list",data:= .seq c.toArray n}
 | .tup d=>d.length<=sizeLine/\∃c:LW,Vals d c/\IsTup h a c.toArray
 | .dK b=>b.length<=sizeLine/\(a==sysModules)=false/\∃k,KV b k/\h.DictOf (Zp P w) a k
 | .dT b=>b.length<=sizeLine/\(a==sysModules)=false/\∃d:List (List Key×Uc×Ua),
   Paired (fun(p:List Key×V) (q:List Key×Uc×Ua)=>p.1=q.1/\H q.2.1=some (.tup (p.1.map kV))/\RelV p.2 q.2.2) b d/\
   ∃o r A,h.get? a=some o/\o.ExactDict/\o.data= .dict r A/\r.toList=d.map (entryOfKey (tupleKind (Zp P w)))/\(d.map (·.1)).Nodup
 | .set S n=>h.SetOf (intKind P w) a S n
 | .ins C i g=>H i=some (.own a)/\g.length<=1000/\i≠a/\h.get? a=some (PySem.W.instObj C i)/\
   ∃e,h.Ns1 i e/\(∀f,RelO (g.lookup f) (e f))/\PySem.Within e (g.map (·.1))
 | .own _=>∃o,h.get? a=some o
 | .xd g=>∃e,h.Ns1 a e/\∀f,RelO (g.lookup f) (e f)
 | .rng y z=>∃t u v,h.get? a=some {cls:= .type "range",data:= .fields #[.int y t,.int z u,.int 1 v]}
 | .frz o u=>h.get? a=some o/\Yc H h a u
 | .tbl s=>h.get? a=some {cls:= .none,data:= .fields s}
 | .met f x=>h.get? a=some (PySem.W.methodObj (.ref f) (.ref x))
 | .ext j=>j h/\(∃o,h.get? a=some o)/\∀m l:Uf,j m->(∀o,m.get? a=some o->l.get? a=some o)->j l
def HOk(H:Hp)(h:Uf):Prop:=∀a o,H a=some o->Yc P w H h a o
end
section
variable{P:Ud}{w:Ue}{H H':Hp}{h h':Uf}{a:Uc}{o:HO}
def Yc.lt(x:Yc P w H h a o):a<h.objs.size:=by
 cases o with
 | lst c=>let⟨_,_,_,_,e⟩:=x;show Aj e
 | tup c=>let⟨_,_,_,p⟩:=x;show p.lt
 | dK b=>let⟨_,_,_,_,o,_,_,e,_⟩:=x;show Aj e
 | dT b=>let⟨_,_,_,_,o,_,_,e,_⟩:=x;show Aj e
 | set S n=>let⟨o,_,_,_,e,_⟩:=x;show Aj e
 | ins C m d=>let⟨_,_,_,e,_⟩:=x;show Aj e
 | own y=>let⟨_,e⟩:=x;show Aj e
 | xd d=>let⟨_,⟨_,_,_,e,_⟩,_⟩:=x;show Aj e
 | rng k l=>let⟨_,_,_,e⟩:=x;show Aj e
 | frz j u=>let⟨e,_⟩:=x;show Aj e
 | tbl i=>show Aj (show h.get? a=some _ from x)
 | met f y=>show Aj (show h.get? a=some _ from x)
 | ext g=>let⟨_,⟨_,e⟩,_⟩:=x;show Aj e
def Paired.mapP{d c:Type}{F G:d->c->Prop}:∀{l₁:List d} {l₂:List c},Paired F l₁ l₂->(∀a b,F a b->G a b)->Paired G l₁ l₂:=by
 intro l₁ l₂ h f
 induction h with
 | nil=>show .nil
 | cons r t ih=>show .cons (f _ _ r) ih
def Yc.stay(x:Yc P w H h a o)(k:∀b u,(b=a\/H b=some (.own a))->h.get? b=some u->h'.get? b=some u)
  (J:∀b,H b=some (.own a)->H' b=some (.own a)) (I:∀b xs,H b=some (.tup xs)->H' b=some (.tup xs)):Yc P w H' h' a o:=by
 induction o with
 | lst xs=>let⟨z,l,n,r,e⟩:=x;show⟨z,l,n,r,k _ _ (.inl rfl) e⟩
 | tup xs=>let⟨z,l,r,g,e,c⟩:=x;show⟨z,l,r,g,k _ _ (.inl rfl) e,c⟩
 | dK A=>let⟨z,y,E,r,g,i,j,e,c⟩:=x;show⟨z,y,E,r,g,i,j,k _ _ (.inl rfl) e,c⟩
 | dT A=>
  let⟨z,y,xs,r,g,i,j,e,c⟩:=x
  show⟨z,y,xs,Paired.mapP r fun p q z=>⟨z.1,I _ _ z.2.1,z.2.2⟩,g,i,j,k _ _ (.inl rfl) e,c⟩
 | set S n=>let⟨g,i,j,t,e,c⟩:=x;show⟨g,i,j,t,k _ _ (.inl rfl) e,c⟩
 | ins C Q K=>
  let⟨d,z,F,e,s,⟨m,i,j,L,c⟩,r⟩:=x
  show⟨J _ d,z,F,k _ _ (.inl rfl) e,s,⟨m,i,j,k _ _ (.inr d) L,c⟩,r⟩
 | own y=>let⟨g,e⟩:=x;show⟨g,k _ _ (.inl rfl) e⟩
 | xd K=>let⟨s,⟨m,i,j,e,c⟩,r⟩:=x;show⟨s,⟨m,i,j,k _ _ (.inl rfl) e,c⟩,r⟩
 | rng N O=>let⟨t,u,v,e⟩:=x;show⟨t,u,v,k _ _ (.inl rfl) e⟩
 | frz g u G=>let⟨e,q⟩:=x;show⟨k _ _ (.inl rfl) e,G q⟩
 | tbl D=>
  have e:h.get? a=some {cls:= .none,data:= .fields D}:=x
  change h'.get? a=some {cls:= .none,data:= .fields D}
  show k a _ (.inl rfl) e
 | met f y=>
  have e:h.get? a=some (PySem.W.methodObj (.ref f) (.ref y)):=x
  change h'.get? a=some (PySem.W.methodObj (.ref f) (.ref y))
  show k a _ (.inl rfl) e
 | ext M=>let⟨p,⟨o,e⟩,B⟩:=x;show⟨B _ _ p fun o q=>k _ _ (.inl rfl) q,⟨o,k _ _ (.inl rfl) e⟩,B⟩
def HOk.lt(x:HOk P w H h)(e:H a=some o):a<h.objs.size:=(x a o e).lt
def HOk.fresh(x:HOk P w H h)(e:h.objs.size<=a):H a=none:=by
 cases q:H a with
 | none=>rfl
 | some u=>show absurd (ni (x.lt q) e) (nu _)
def HOk.kept(x:HOk P w H h)(k:∀b u,h.get? b=some u->h'.get? b=some u):HOk P w H h':=fun a o e=>
 (x a o e).stay (fun b u _ q=>k b u q) (fun _ q=>q) fun _ _ q=>q
def HOk.laid(x:HOk P w H h)(k:∀b u,h.get? b=some u->h'.get? b=some u)(i:h.objs.size<=a)(d:Yc P w (upd H a o) h' a o):HOk P w (upd H a o) h':=fun b u e=>by
 have f:=x.fresh i
 by_cases g:b=a
 .subst g;rw[Zl] at e;cases e;show d
 .rw[Z6 g] at e
  show(x b u e).stay (fun c v _ q=>k c v q) (fun c q=>by rw[Z6 (Xh q f)];show q) fun c j q=>by rw[Z6 (Xh q f)];show q
end
def Rd(H:Hp)(a:Uc)(u:HO):Prop:=H a=some u\/∃o,H a=some (.frz o u)
def Rd.ok{P:Ud}{w:Ue}{H:Hp}{h:Uf}{a:Uc}{u:HO}(r:Rd H a u)(x:HOk P w H h):Yc P w H h a u:=by
 rcases r with r | ⟨o,r⟩
 .exact x a u r
 .let⟨_,q⟩:=x a _ r
  show q
def Mut:Option HO->Prop
 | some (.lst _)=>True
 | some (.dK _)=>True
 | some (.dT _)=>True
 | some (.set _ _)=>True
 | some (.ins _ _ _)=>True
 | some (.ext _)=>True
 | _=>False
section
variable{P:Ud}{w:Ue}{H:Hp}{h h':Uf}{x e:Uc}{o':HO}
def HOk.write(s:HOk P w H h)(i:Mut (H x))(p:e=x\/H e=some (.own x))(k:∀b u,b≠e->h.get? b=some u->h'.get? b=some u)(n:∃u,h'.get? e=some u)
  (m:Yc P w (upd H x o') h' x o'):HOk P w (upd H x o') h':=fun b u q=>by
 have d:∀c y,H c=some (.own y)->c≠x:=fun c y r z=>by subst z;rw[r] at i;show i
 have f:∀c g,H c=some (.tup g)->c≠x:=fun c g r z=>by subst z;rw[r] at i;show i
 by_cases l:b=x
 .subst l;rw[Zl] at q;cases q;show m
 .rw[Z6 l] at q
  by_cases a:b=e
  .have o:H b=some (.own x):=by
    rcases p with z | z
    .exact absurd (a.trans z) l
    .rw[a];show z
   rw[q] at o;cases o
   let⟨v,t⟩:=n
   show⟨v,by rw[a];show t⟩
  .refine(s b u q).stay (fun c v j r=>k c v ?_ r) (fun c r=>by rw[Z6 (d c b r)];show r) fun c g r=>by rw[Z6 (f c g r)];show r
   rcases j with rfl | j
   .exact a
   .rintro rfl
    rcases p with z | z
    .exact d c b j z
    .rw[j] at z;cases z;show l rfl
end
structure Un(fs ex:List Uc)(H H':Hp)(h h':Uf):Prop where
 keep:∀b o,h.get? b=some o->H b=none->b∉fs->b∉ex->h'.get? b=some o
 slot:∀b o,h.get? b=some o->H b=none->b∈fs->b∉ex->∃sl,h'.get? b=some {o with slots:=sl}
 free:∀b o,h.get? b=some o->H b=none->b∉ex->H' b=none
 there:∀b o,h.get? b=some o->b∉ex->∃o',h'.get? b=some o'
 tups:∀b xs,H b=some (.tup xs)->H' b=some (.tup xs)
 frzs:∀b o u,H b=some (.frz o u)->H' b=some (.frz o u)
 tbls:∀b ps,H b=some (.tbl ps)->∃more,H' b=some (.tbl (ps++more))
section
variable{fs fs' ex ex':List Uc}{H H1 H2:Hp}{h h1 h2 h':Uf}{a x e:Uc}{o:HO}
def Un.any(u:Un fs ex H H1 h h1){b:Uc}{c:Obj}(q:h.get? b=some c)(n:H b=none)(d:b∉ex):∃g,h1.get? b=some {c with slots:=g}:=by
 by_cases f:b∈fs
 .exact u.slot b c q n f d
 .exact⟨c.slots,u.keep b c q n f d⟩
def Un.kept(k:∀b u,h.get? b=some u->h'.get? b=some u):Un fs ex H H h h':=
 ⟨fun b c q _ _ _=>k b c q,fun b c q _ _ _=>⟨c.slots,k b c q⟩,fun _ _ _ n _=>n,fun b c q _=>⟨c,k b c q⟩,fun _ _ q=>q,fun _ _ _ q=>q,fun _ d q=>⟨#[],by rw[q];simp⟩⟩
def Un.refl:Un fs ex H H h h:=Un.kept fun _ _ q=>q
def Un.laid(k:∀b u,h.get? b=some u->h'.get? b=some u)(f:h.objs.size<=a)(c:H a=none):Un fs ex H (upd H a o) h h' where
 keep:=fun b u q _ _ _=>k b u q
 slot:=fun b u q _ _ _=>⟨u.slots,k b u q⟩
 free:=fun b u q n _=>by rw[Z6 (nk (ni (Aj q) f))];show n
 there:=fun b u q _=>⟨u,k b u q⟩
 tups:=fun b d q=>by rw[Z6 (Xh q c)];show q
 frzs:=fun b u d q=>by rw[Z6 (Xh q c)];show q
 tbls:=fun b g q=>⟨#[],by rw[Z6 (Xh q c),q];simp⟩
def Un.write(d:Mut (H x))(p:e=x\/H e=some (.own x))(k:∀b u,b≠e->h.get? b=some u->h'.get? b=some u)(g:∃u,h'.get? e=some u):Un fs ex H (upd H x o) h h':=by
 have i:∀b,H b=none->b≠x:=fun b n z=>by subst z;rw[n] at d;show d
 have j:∀b,H b=none->b≠e:=fun b n z=>by
  subst z
  rcases p with r | r
  .exact i b n r
  .rw[n] at r;cases r
 have f:∀b u,H b=some u->¬Mut (some u)->b≠x:=fun b u q m z=>by subst z;rw[q] at d;show m d
 refine⟨fun b u q n _ _=>k b u (j b n) q,fun b u q n _ _=>⟨u.slots,k b u (j b n) q⟩,fun b u q n _=>by rw[Z6 (i b n)];show n,fun b u q _=>?_,
  fun b l q=>by rw[Z6 (f b _ q fun z=>z)];show q,fun b u l q=>by rw[Z6 (f b _ q fun z=>z)];show q,fun b s q=>⟨#[],by rw[Z6 (f b _ q fun z=>z),q];simp⟩⟩
 by_cases c:b=e
 .subst c;show g
 .exact⟨u,k b u c q⟩
end
def trk(h:Uf)(H:Hp):List Uc:=(Ik h.objs.size).filter fun a=>(H a).isSome
def hidT(h:Uf)(H:Hp):Uf:=PySem.W.hideAll h (trk h H)
def Zs7(h:Uf)(H:Hp):(hidT h H).objs.size=h.objs.size:=PySem.W.hideAll_size _ _
def Y17{h:Uf}{H:Hp}{b:Uc}{o:Obj}(e:h.get? b=some o)(n:H b=none):(hidT h H).get? b=some o:=
 PySem.W.hideAll_get _ e fun a=>by
  have q:(H b).isSome=true:=(List.mem_filter.mp a).2
  rw[n] at q;simp at q
def Y88{h:Uf}{H:Hp}{b:Uc}{o:Obj}(e:(hidT h H).get? b=some o):h.get? b=some o/\H b=none:=by
 have a:h.get? b=some o:=PySem.W.of_hideAll (trk h H) e
 refine⟨a,?_⟩
 cases q:H b with
 | none=>rfl
 | some x=>
  have c:b∈trk h H:=List.mem_filter.mpr ⟨Il.mpr (Aj a),by simp[q]⟩
  have z:(hidT h H).get? b=none:=PySem.W.hideAll_none (trk h H) c
  rw[z] at e;cases e
def Yg6(g h:Uf)(L:Uc):PLO:=(Ik h.objs.size).filterMap fun a=>if a=L\/(g.get? a).isSome=true then none else(h.get? a).map fun o=>(a,o)
def rest(g h:Uf)(L d:Uc):PLO:=(Yg6 g h L).filter fun p=>decide (p.1≠d)
structure Mod(K:Ab)(mg:Str->Option Ua)(base:Uf):Prop where
 kin:K.In base
 glob:base.Ns mainGlobals mg
 blt:∃mb,base.Ns builtinsNs mb/\∀x:Str,x≠"__name__"->mb x=bootBuiltins x
 nolimit:base.NoLimit
structure Cx where
 prog:Ud
 w:Ue
 K:Ab
 mg:Str->Option Ua
 base:Uf
 A:Around
 N:LS
 s₀:Ub
 H₀:Hp
 env:Env
 outer:List Env
 stack:List Env
 ex:List Uc
 fn:Str->Bool
 calm:Bool
 pn:PLO
 xe:VSP
def frs(l:List Env):List Uc:=l.filterMap (·.frame)
abbrev Cx.fs(X:Cx):List Uc:=frs X.outer
def Vis(a:Scope)(x:Str):Prop:=a.names.lookup x=some .local\/a.names.lookup x=some .cell\/a.names.lookup x=some .free
def Loc(a:Scope)(x:Str):Prop:=a.names.lookup x=some .local\/a.names.lookup x=some .cell
def Look(env:Env)(h:Uf)(m:Str->Option Ua)(x:Str)(u:Ua):Prop:=
 (env.kindOf x=some .local/\m x=some u)\/((env.kindOf x=some .cell\/env.kindOf x=some .free)/\∃c,env.cells.lookup x=some c/\h.IsCell c (some u))
structure Cx.Ok(X:Cx):Prop where
 mod:Mod X.K X.mg X.base
 kind:X.env.scope.kind= .function
 glob:X.env.globals=mainGlobals
 blt:X.env.builtins=builtinsNs
 above:X.s₀⁻¹<=X.env.locals
 inj:∀x y c,X.env.cells.lookup x=some c->X.env.cells.lookup y=some c->x=y
 has:∀x,(X.env.kindOf x=some .cell\/X.env.kindOf x=some .free)->∃c,X.env.cells.lookup x=some c
 cab:∀x c,X.fn x=true->X.env.cells.lookup x=some c->X.s₀⁻¹<=c
 hd:X.calm=true->X.A.handled=none
 frames:X.A.frames=some X.stack
 stk:X.stack=X.outer\/(X.stack=X.env::X.outer/\X.env.frame=some X.env.locals)
 exf:∀b∈X.ex,b≠X.env.locals/\∀x c,X.env.cells.lookup x=some c->c≠b
 bs:∀b o,X.base.get? b=some o->X.s₀.heap.get? b=some o/\X.H₀ b=none
 bsz:X.base.objs.size<=X.s₀⁻¹
 noex:∀b o,X.base.get? b=some o->b∉X.ex
 exfs:∀b∈X.ex,b∉X.fs
 funs:X.s₀.heap.FunFrames X.base X.outer
 frf:∀b∈X.fs,X.H₀ b=none
structure Inv(X:Cx)(pins:PLO)(σ:List (Option V))(H:Hp)(s:Ub):Prop where
 ok:X.Ok
 os:s.os=X.s₀.os
 bare:AllBare s.gens
 base:Un X.fs X.ex X.H₀ H X.s₀.heap s.heap
 loc:∃m,s.heap.Ns X.env.locals m/\∀(i:Nat) (x:Str) (v:V),X.N[i]?=some x->σ[i]?=some (some v)->Vis X.env.scope x->∃u,RelV v u/\Look X.env s.heap m x u
 cell:∀x c,X.env.cells.lookup x=some c->∃v,s.heap.IsCell c v
 free:H X.env.locals=none
 freeC:∀x c,X.env.cells.lookup x=some c->H c=none
 pin:∀p∈X.pn++pins,s.heap.get? p.1=some p.2/\H p.1=none/\p.1≠X.env.locals/\p.1∉X.fs/\∀v,p.2.data≠ .cell v
 hok:HOk X.prog X.w H s.heap
 len:σ.length=X.N.length
section
variable{X:Cx}{pins:PLO}{σ:List (Option V)}{H H':Hp}{s:Ub}{h':Uf}
def Cx.Ok.nofr(a:X.Ok){b:Uc}{o:Obj}(e:X.base.get? b=some o):b∉X.fs:=fun c=>by
 have:=(a.funs.mem c).1
 rw[e] at this;cases this
def Inv.bs(I:Inv X pins σ H s):∀b o,X.base.get? b=some o->s.heap.get? b=some o/\H b=none:=fun b o e=>
 ⟨I.base.keep b o (I.ok.bs b o e).1 (I.ok.bs b o e).2 (I.ok.nofr e) (I.ok.noex b o e),I.base.free b o (I.ok.bs b o e).1 (I.ok.bs b o e).2 (I.ok.noex b o e)⟩
def Inv.bk(I:Inv X pins σ H s):∀b o,X.base.get? b=some o->s.heap.get? b=some o:=fun b o e=>(I.bs b o e).1
def Inv.mod(I:Inv X pins σ H s):Mod X.K X.mg X.base:=I.ok.mod
def Inv.kIn(I:Inv X pins σ H s):X.K.In s.heap:=I.ok.mod.kin.keeps I.bk
def Inv.lt(I:Inv X pins σ H s):X.env.locals<s⁻¹:=by let⟨_,a,_⟩:=I.loc;show a.lt
def Inv.sz(I:Inv X pins σ H s):X.s₀⁻¹<=s⁻¹:=nj I.ok.above (ny I.lt)
def Inv.nofs(I:Inv X pins σ H s){a:Uc}(h:s⁻¹<=a):a∉X.fs:=fun c=>by
 let⟨_,o,b,_⟩:=I.ok.funs.mem c
 show absurd (ni (Aj b) (nj I.sz h)) (nu _)
def Inv.cne(I:Inv X pins σ H s):∀x c,X.env.cells.lookup x=some c->c≠X.env.locals:=fun x c e z=>by
 let⟨v,o,d,f⟩:=I.cell x c e
 let⟨m,⟨g,h,i,a,b,_⟩,_⟩:=I.loc
 rw[z,a] at d;cases d;rw[b] at f;cases f
def Inv.funs(I:Inv X pins σ H s):s.heap.FunFrames X.base X.outer:=by
 have f:∀(l:List Env),(∀b∈frs l,b∈X.fs)->X.s₀.heap.FunFrames X.base l->s.heap.FunFrames X.base l:=by
  intro l
  induction l with
  | nil=>intro _ _;trivial
  | cons q r h=>
   intro g m
   let⟨n,⟨L,o,a,k,j,p⟩,i⟩:=m
   have d:L∈X.fs:=g L (by unfold frs;rw[Lh,a];show Bs)
   let⟨t,e⟩:=I.base.slot L o j (I.ok.frf L d) d fun z=>I.ok.exfs L z d
   show⟨n,⟨L,_,a,k,e,p⟩,h (fun b c=>g b (by unfold frs;rw[Lh,a];show Av _ c)) i⟩
 show f X.outer (fun _ c=>c) I.ok.funs
def Inv.stack(I:Inv X pins σ H s):s.heap.FunFrames X.base X.stack:=by
 rcases I.ok.stk with e | ⟨e,hf⟩
 .rw[e];show I.funs
 .rw[e]
  let⟨m,a,_⟩:=I.loc
  refine .cons (by rw[I.ok.kind];decide) hf a ?_ I.funs
  show Heap.get?_none_of_le (nj I.ok.bsz I.ok.above)
def Inv.stkSub(I:Inv X pins σ H s):∀b∈frs X.stack,b∈X.env.locals::X.fs:=fun b a=>by
 rcases I.ok.stk with e | ⟨e,hf⟩
 .rw[e] at a;show Av _ a
 .rw[e] at a
  unfold frs at a
  rw[Lh,hf] at a
  show a
def Inv.stkFree(I:Inv X pins σ H s):∀b∈frs X.stack,H b=none:=fun b a=>by
 rcases An.mp (I.stkSub b a) with e | a
 .rw[e];show I.free
 .let⟨_,o,c,_⟩:=I.ok.funs.mem a
  show I.base.free b o c (I.ok.frf b a) fun z=>I.ok.exfs b z a
def Inv.step{g':Array GenState}{t':Nat}{d':Drawn}{ch:List Uc}(I:Inv X pins σ H s)
  (j:∀b∈ch,(b∈X.ex\/X.s₀⁻¹<=b)/\b≠X.env.locals/\(∀x c,X.env.cells.lookup x=some c->c≠b)/\∀p∈X.pn++pins,p.1≠b)
  (h:∀b o,b≠X.env.locals->b∉X.fs->b∉ch->s.heap.get? b=some o->H b=none->h'.get? b=some o)
  (C:∀b o,b≠X.env.locals->b∈X.fs->b∉ch->s.heap.get? b=some o->H b=none->∃R,h'.get? b=some {o with slots:=R}) (f:∀b o,b∉ch->s.heap.get? b=some o->H b=none->H' b=none)
  (D:∀b o,b∉ch->s.heap.get? b=some o->∃K,h'.get? b=some K)
  (G:∀b B,H b=some (.tup B)->H' b=some (.tup B)) (N:∀b o u,H b=some (.frz o u)->H' b=some (.frz o u)) (J:∀b P,H b=some (.tbl P)->∃M,H' b=some (.tbl (P++M)))
  (Z:∀m,s.heap.Ns X.env.locals m->h'.Ns X.env.locals m) (S:HOk X.prog X.w H' h') (hg:AllBare g'):
  Inv X pins σ H' {s with heap:=h',gens:=g',drawn:=d',toks:=t'}:=by
 have L:∀b o,X.s₀.heap.get? b=some o->b≠X.env.locals:=fun b o e=>nk (ni (Aj e) I.ok.above)
 have y:∀b o,X.s₀.heap.get? b=some o->b∉X.ex->b∉ch:=fun b o e a E=>by
  rcases(j b E).1 with z | z
  .exact a z
  .exact absurd (ni (Aj e) z) (nu _)
 have t:∀x c,X.env.cells.lookup x=some c->∀v,s.heap.IsCell c v->h'.IsCell c v:=fun x c e v zy1=>by
  let⟨o,F,T⟩:=zy1
  have g:c∉ch:=fun z=>(j c z).2.2.1 x c e rfl
  by_cases Y:c∈X.fs
  .let⟨R,q⟩:=C c o (I.cne x c e) Y g F (I.freeC x c e)
   show⟨_,q,T⟩
  .exact⟨o,h c o (I.cne x c e) Y g F (I.freeC x c e),T⟩
 refine⟨I.ok,I.os,hg,⟨fun b o e n E a=>?_,fun b o e n E a=>?_,fun b o e n a=>?_,fun b o e a=>?_,fun b B e=>G b B (I.base.tups b B e),fun b o B e=>N b o B (I.base.frzs b o B e),fun b P e=>?_⟩,?_,fun x c e=>?_,?_,fun x c e=>?_,fun p W=>?_,S,I.len⟩
 .exact h b o (L b o e) E (y b o e a) (I.base.keep b o e n E a) (I.base.free b o e n a)
 .let⟨R,A⟩:=I.base.slot b o e n E a
  let⟨Q,O⟩:=C b _ (L b o e) E (y b o e a) A (I.base.free b o e n a)
  show⟨Q,O⟩
 .let⟨K,A⟩:=I.base.there b o e a
  show f b K (y b o e a) A (I.base.free b o e n a)
 .let⟨K,A⟩:=I.base.there b o e a
  show D b K (y b o e a) A
 .let⟨m1,A⟩:=I.base.tbls b P e
  let⟨m2,O⟩:=J b _ A
  show⟨m1++m2,by rw[O,Array.append_assoc]⟩
 .let⟨m,hn,hl⟩:=I.loc
  refine⟨m,Z m hn,fun i x v A O e3=>?_⟩
  let⟨u,r,l⟩:=hl i x v A O e3
  refine⟨u,r,?_⟩
  rcases l with l | ⟨k,c,e,z⟩
  .exact .inl l
  .exact .inr ⟨k,c,e,t x c e _ z⟩
 .let⟨v,z⟩:=I.cell x c e
  show⟨v,t x c e v z⟩
 .let⟨m,⟨o,_,_,F,_⟩,_⟩:=I.loc
  show f _ o (fun z=>(j _ z).2.1 rfl) F I.free
 .let⟨v,o,F,T⟩:=I.cell x c e
  show f c o (fun z=>(j c z).2.2.1 x c e rfl) F (I.freeC x c e)
 .let⟨e,n,V,U,d⟩:=I.pin p W
  have g:p.1∉ch:=fun z=>(j p.1 z).2.2.2 p W rfl
  show⟨h p.1 p.2 V U g e n,f p.1 p.2 g e n,V,U,d⟩
def Inv.un{t':Nat}(I:Inv X pins σ H s)(u:Un X.fs [] H H' s.heap h')(c:HOk X.prog X.w H' h'):Inv X pins σ H' {s with heap:=h',toks:=t'}:=by
 let⟨m,⟨o,t,v,h,r⟩,_⟩:=id I.loc
 let⟨l,k⟩:=u.any h I.free (by simp)
 show I.step (g':=s.gens) (d':=s.drawn) (ch:=[]) (fun _ z=>nomatch z) (fun b o _ d _ e n=>u.keep b o e n d (by simp)) (fun b o _ d _ e n=>u.slot b o e n d (by simp)) (fun b o _ e n=>u.free b o e n (by simp)) (fun b o _ e=>u.there b o e (by simp)) u.tups u.frzs u.tbls (fun q j=>by
  let⟨p,f,g,a,i⟩:=j
  rw[h] at a;cases a
  show⟨_,f,g,k,i⟩) c I.bare
def Inv.call{g':Array GenState}{t':Nat}{d':Drawn}{ch:List Uc}(I:Inv X pins σ H s)(u:Un (frs X.stack) ch H H' s.heap h')(g:HOk X.prog X.w H' h')(t:AllBare g')
  (f:∀b∈ch,(b∈X.ex\/X.s₀⁻¹<=b)/\b≠X.env.locals/\(∀x c,X.env.cells.lookup x=some c->c≠b)/\∀p∈X.pn++pins,p.1≠b):
  Inv X pins σ H' {s with heap:=h',gens:=g',drawn:=d',toks:=t'}:=by
 let⟨m,⟨o,C,D,k,r⟩,_⟩:=id I.loc
 let⟨y,h⟩:=u.any k I.free fun z=>(f _ z).2.1 rfl
 show I.step (ch:=ch) f (fun b o h v a e n=>u.keep b o e n (fun z=>(An.mp (I.stkSub b z)).elim h v) a) (fun b o _ _ a e n=>u.any e n a) (fun b o a e n=>u.free b o e n a) (fun b o a e=>u.there b o e a) u.tups u.frzs u.tbls (fun B q=>by
  let⟨A,i,j,d,l⟩:=q
  rw[k] at d;cases d
  show⟨_,i,j,h,l⟩) g t
def Inv.turned{t':Nat}{a:Uc}(I:Inv X pins σ H s)(k:∀b o,b≠a->s.heap.get? b=some o->h'.get? b=some o)(i:H a=none)(g:a≠X.env.locals)
  (y:a∈X.ex\/X.s₀⁻¹<=a) (w:∀x c,X.env.cells.lookup x=some c->c≠a) (t:∀p∈X.pn++pins,p.1≠a):Inv X pins σ H {s with heap:=h',toks:=t'}:=by
 have f:∀b u,H b=some u->b≠a:=fun b u e z=>by rw[z,i] at e;cases e
 refine I.step (g':=s.gens) (d':=s.drawn) (ch:=[a]) (fun b l=>?_) (fun b o _ _ d e _=>k b o (fun z=>d (by simp[z])) e) (fun b o _ _ d e _=>⟨o.slots,k b o (fun z=>d (by simp[z])) e⟩) (fun _ _ _ _ n=>n)
  (fun b o d e=>⟨o,k b o (fun z=>d (by simp[z])) e⟩) (fun _ _ e=>e) (fun _ _ _ e=>e) (fun b C e=>⟨#[],by rw[e];simp⟩) (fun m j=>?_) (fun b u e=>?_) I.bare
 .have e:b=a:=by simpa using l
  subst e
  show⟨y,g,w,t⟩
 .let⟨o,A,B,h,r⟩:=j
  show⟨o,A,B,k _ o (Au g) h,r⟩
 .refine(I.hok b u e).stay (fun c v d q=>k c v ?_ q) (fun _ q=>q) fun _ _ q=>q
  rcases d with z | z
  .rw[z];show f b u e
  .exact f c _ z
def Inv.tok(I:Inv X pins σ H s)(t:Nat):Inv X pins σ H {s with toks:=t}:=I.un (h':=s.heap) (t':=t) Un.refl I.hok
def Inv.kept{t':Nat}(I:Inv X pins σ H s)(k:∀b u,s.heap.get? b=some u->h'.get? b=some u):Inv X pins σ H {s with heap:=h',toks:=t'}:=I.un (Un.kept k) (I.hok.kept k)
def Inv.laid{a:Uc}{o:HO}{t':Nat}(I:Inv X pins σ H s)(k:∀b u,s.heap.get? b=some u->h'.get? b=some u)(d:s⁻¹<=a)(c:Yc X.prog X.w (upd H a o) h' a o):
  Inv X pins σ (upd H a o) {s with heap:=h',toks:=t'}:=I.un (Un.laid k d (I.hok.fresh d)) (I.hok.laid k d c)
def Inv.write{x e:Uc}{o:HO}{t':Nat}(I:Inv X pins σ H s)(d:Mut (H x))(f:e=x\/H e=some (.own x))(k:∀b u,b≠e->s.heap.get? b=some u->h'.get? b=some u)(a:∃u,h'.get? e=some u)
  (c:Yc X.prog X.w (upd H x o) h' x o):Inv X pins σ (upd H x o) {s with heap:=h',toks:=t'}:=I.un (Un.write d f k a) (I.hok.write d f k a c)
def Inv.pins_of{a:PLO}(I:Inv X pins σ H s)(h:∀p∈a,s.heap.get? p.1=some p.2/\H p.1=none/\p.1≠X.env.locals/\p.1∉X.fs/\∀v,p.2.data≠ .cell v):Inv X a σ H s:=
 ⟨I.ok,I.os,I.bare,I.base,I.loc,I.cell,I.free,I.freeC,fun p b=>(Az.mp b).elim (fun z=>I.pin p (Kw _ z)) (h p),I.hok,I.len⟩
def Bj{N:LS}(c:N.Nodup){i j:Nat}{x:Str}(a:N[i]?=some x)(b:N[j]?=some x):i=j:=by
 let⟨g,e⟩:=Ac.mp a
 let⟨f,d⟩:=Ac.mp b
 show(List.getElem_inj c).mp (e.trans d.symm)
def Qc{M:Model}{A:Around}{E:VSP}{i:Nat}{x:Str}{v:V}{u:Ua}{Q:Unit->Ub->Prop}(I:Inv X pins σ H s)(hN:X.N.Nodup)(hi:X.N[i]?=some x)(hx:Loc X.env.scope x)(r:RelV v u)
  (h:∀s',Inv X pins (σ.set i (some v)) H s'->(∃a,Hv a s.heap s'.heap/\(a=X.env.locals\/X.env.cells.lookup x=some a))->Q () s') (hf:X.fn x=true\/X.env.scope.names.lookup x=some .local:=by first | show .inl rfl | show .inr rfl | assumption):wpAny M A (storeName X.env x u) Q E s:=by
 let⟨m,hn,hl⟩:=id I.loc
 have hcls:(X.env.scope.kind== .class || (X.env.scope.kind== .module&&X.env.locals !=X.env.globals))=false:=by rw[I.ok.kind];rfl
 have hiσ:i<σ.length:=by rw[I.len];show(Ac.mp hi).1
 have cne:=I.cne
 have tracked:∀{a:Uc} {h':Uf},(∃o,s.heap.get? a=some o/\H a=none)->Hv a s.heap h'->HOk X.prog X.w H h':=fun{a h'} ha hs b ob e=>by
  let⟨_,_,hfree⟩:=ha
  refine(I.hok b ob e).stay (fun c w' hc q=>(hs.2 c ?_).trans q) (fun _ q=>q) fun _ _ q=>q
  rintro rfl
  rcases hc with rfl | hc
  .rw[hfree] at e;cases e
  .rw[hfree] at hc;cases hc
 rcases hx with hk | hk
 .refine wpAny_storeName_local hk hn (fun h' hn' hs=>?_) hcls
  let⟨oL,_,_,hoL,_⟩:=id hn
  refine h _ ⟨I.ok,I.os,I.bare,⟨fun b o e n hb hx=>?_,fun b o e n hb hx=>?_,I.base.free,fun b o e hx=>?_,I.base.tups,I.base.frzs,I.base.tbls⟩,⟨_,hn',fun j y v' e1 e2 e3=>?_⟩,fun y c e=>?_,I.free,I.freeC,fun p hp=>?_,tracked ⟨oL,hoL,I.free⟩ hs,↥I.len⟩ ⟨_,hs,.inl rfl⟩
  .exact(hs.2 b (nk (ni (Aj e) I.ok.above))).trans (I.base.keep b o e n hb hx)
  .let⟨sl,e1⟩:=I.base.slot b o e n hb hx
   show⟨sl,(hs.2 b (nk (ni (Aj e) I.ok.above))).trans e1⟩
  .let⟨o',e1⟩:=I.base.there b o e hx
   show⟨o',(hs.2 b (nk (ni (Aj e) I.ok.above))).trans e1⟩
  .by_cases hj:j=i
   .subst hj
    rw[hi] at e1;cases e1
    rw[Di hiσ] at e2
    cases e2
    show⟨u,r,.inl ⟨hk,by simp⟩⟩
   .rw[Db (Au hj)] at e2
    let⟨u',r',q⟩:=hl j y v' e1 e2 e3
    refine⟨u',r',?_⟩
    rcases q with⟨k,e⟩ | ⟨k,c,e,z⟩
    .refine .inl ⟨k,?_⟩
     have:y≠x:=fun e=>hj (Bj hN e1 (e ▸ hi))
     simp[this,e]
    .exact .inr ⟨k,c,e,z.sameBut hs (cne y c e)⟩
  .let⟨w',z⟩:=I.cell y c e
   show⟨w',z.sameBut hs (cne y c e)⟩
  .let⟨e,n,ne,nf,d⟩:=I.pin p hp
   show⟨(hs.2 p.1 ne).trans e,n,ne,nf,d⟩
 .have hfn:X.fn x=true:=by
   rcases hf with z | z
   .exact z
   .rw[z] at hk;cases hk
  let⟨c,hc⟩:=I.ok.has x (.inl hk)
  let⟨w',z⟩:=I.cell x c hc
  refine wpAny_storeName_cell I.ok.kind hk hc z (fun h' hc' hs=>?_)
  let⟨oc,hoc,hocd⟩:=id z
  refine h {s with heap:=h'} ⟨I.ok,I.os,I.bare,⟨fun b o e n hb hx=>?_,fun b o e n hb hx=>?_,I.base.free,fun b o e hx=>?_,I.base.tups,I.base.frzs,I.base.tbls⟩,⟨m,hn.sameBut hs (Au (cne x c hc)),fun j y v' e1 e2 e3=>?_⟩,fun y c' e=>?_,I.free,I.freeC,fun p hp=>?_,tracked ⟨oc,hoc,I.freeC x c hc⟩ hs,↥I.len⟩ ⟨c,hs,.inr hc⟩
  .exact(hs.2 b (nk (ni (Aj e) (I.ok.cab x c hfn hc)))).trans (I.base.keep b o e n hb hx)
  .let⟨sl,e1⟩:=I.base.slot b o e n hb hx
   show⟨sl,(hs.2 b (nk (ni (Aj e) (I.ok.cab x c hfn hc)))).trans e1⟩
  .let⟨o',e1⟩:=I.base.there b o e hx
   show⟨o',(hs.2 b (nk (ni (Aj e) (I.ok.cab x c hfn hc)))).trans e1⟩
  .by_cases hj:j=i
   .subst hj
    rw[hi] at e1;cases e1
    rw[Di hiσ] at e2
    cases e2
    show⟨u,r,.inr ⟨.inl hk,c,hc,hc'⟩⟩
   .rw[Db (Au hj)] at e2
    let⟨u',r',q⟩:=hl j y v' e1 e2 e3
    refine⟨u',r',?_⟩
    rcases q with q | ⟨k,c',e,z'⟩
    .exact .inl q
    .refine .inr ⟨k,c',e,z'.sameBut hs ?_⟩
     rintro rfl
     show hj (Bj hN e1 (I.ok.inj _ _ _ e hc ▸ hi))
  .by_cases hcc:c'=c
   .subst hcc;show⟨_,hc'⟩
   .let⟨w2,z2⟩:=I.cell y c' e
    show⟨w2,z2.sameBut hs hcc⟩
  .let⟨e,n,ne,nf,d⟩:=I.pin p hp
   refine⟨(hs.2 p.1 ?_).trans e,n,ne,nf,d⟩
   intro q
   rw[q,hoc] at e
   have q':oc=p.2:=Dg e
   show d w' (by rw[<-q'];show hocd)
def Bi{M:Model}{A:Around}{E:VSP}{i:Nat}{x:Str}{v:V}{u:Ua}{Q:Unit->Ub->Prop}(I:Inv X pins σ H s)(c:X.N.Nodup)(hi:X.N[i]?=some x)(a:Loc X.env.scope x)(r:RelV v u)
  (h:∀s',Inv X pins (σ.set i (some v)) H s'->Q () s') (b:X.fn x=true\/X.env.scope.names.lookup x=some .local:=by first | show .inl rfl | show .inr rfl | assumption):wpAny M A (storeName X.env x u) Q E s:=
 Qc I c hi a r (fun s' d _=>h s' d) b
def Inv.call'{s':Ub}{ch:List Uc}(I:Inv X pins σ H s)(h:s'.os=s.os)(u:Un (frs X.stack) ch H H' s.heap s'.heap)(a:HOk X.prog X.w H' s'.heap)(i:AllBare s'.gens)
  (d:∀b∈ch,(b∈X.ex\/X.s₀⁻¹<=b)/\b≠X.env.locals/\(∀x c,X.env.cells.lookup x=some c->c≠b)/\∀p∈X.pn++pins,p.1≠b):Inv X pins σ H' s':=by
 let⟨h',j,k,f,g⟩:=s'
 have e:g=s.os:=h
 subst e
 show I.call (g':=j) (t':=f) (d':=k) u a i d
end
abbrev XK:=Ua->Option Uc->Hp->Prop
abbrev St:=List (Option V)
abbrev VK:=V->Hp->Prop
abbrev TE:=St->Hp->VK->Prop
abbrev TT:=St->Hp->(Bool->Hp->Prop)->Prop
abbrev TA:=St->Hp->(LV->Hp->Prop)->Prop
structure Ends where
 nx:St->Hp->Prop
 rt:VK
 bk:St->Hp->Prop:=fun _ _=>False
 ct:St->Hp->Prop:=fun _ _=>False
abbrev TS:=Ends->St->Hp->Prop
def EP(X:Cx)(pins:PLO)(b:St)(Q:VK)(u:Ua)(s':Ub):Prop:=∃v a,Inv X pins b a s'/\RelV v u/\Q v a
def TP(X:Cx)(pins:PLO)(c:St)(Q:Bool->Hp->Prop)(b:Bool)(s':Ub):Prop:=∃a,Inv X pins c a s'/\Q b a
def AP(X:Cx)(pins:PLO)(c:St)(Q:LV->Hp->Prop)(us:LW)(s':Ub):Prop:=∃a b,Inv X pins c b s'/\Vals a us/\Q a b
def SP(X:Cx)(pins:PLO)(D:Ends)(f:Flow)(s':Ub):Prop:=
 match f with
 | .next=>∃a b,Inv X pins a b s'/\D.nx a b
 | .brk=>∃a b,Inv X pins a b s'/\D.bk a b
 | .cont=>∃a b,Inv X pins a b s'/\D.ct a b
 | .ret u=>∃v a b,Inv X pins a b s'/\RelV v u/\D.rt v b
def PE(X:Cx)(e:Expr)(t:TE):Prop:=
 ∀(a:PLO) (s:Ub) (b:St) (H:Hp) (Q:VK),Inv X a b H s->t b H Q->⇑X (eval e X.env) (EP X a b Q) X.xe s
def PT(X:Cx)(e:Expr)(t:TT):Prop:=
 ∀(a:PLO) (s:Ub) (b:St) (H:Hp) (Q:Bool->Hp->Prop),Inv X a b H s->t b H Q->⇑X (isTrue e X.env (eval e X.env)) (TP X a b Q) X.xe s
def PW(X:Cx)(e:Expr)(t:TT):Prop:=
 ∀(b:Sem Ua) (a:PLO) (s:Ub) (c:St) (H:Hp) (Q:Bool->Hp->Prop),Inv X a c H s->t c H Q->⇑X (isTrue e X.env b) (TP X a c Q) X.xe s
def PW.pt{X:Cx}{e:Expr}{t:TT}(h:PW X e t):PT X e t:=h _
def PA(X:Cx)(es:List Expr)(t:TA):Prop:=
 ∀(c:Pos) (a:PLO) (s:Ub) (b:St) (H:Hp) (Q:LV->Hp->Prop),Inv X a b H s->t b H Q->⇑X (spliced (backTo c (starEach es X.env))) (AP X a b Q) X.xe s
def PS(X:Cx)(st:Stmt)(t:TS):Prop:=
 ∀(a:PLO) (s:Ub) (b:St) (H:Hp) (D:Ends),Inv X a b H s->t D b H->⇑X (exec st X.env) (SP X a D) X.xe s
def PSs(X:Cx)(st:List Stmt)(t:TS):Prop:=
 ∀(a:PLO) (s:Ub) (b:St) (H:Hp) (D:Ends),Inv X a b H s->t D b H->⇑X (execs st X.env) (SP X a D) X.xe s
def thn{b:Type}{t:Sem b}{Q c:b->Ub->Prop}{M:Model}{A:Around}{E:VSP}{s:Ub}(h:wpAny M A t Q E s)(d:∀a s,Q a s->c a s):wpAny M A t c E s:=Dy h d fun _ _ x=>x
section
variable{X:Cx}
def bin{a b:Expr}{m l:TE}(B:PE X a m)(z:PE X b l){pins:PLO}{s:Ub}{c:St}{H:Hp}{R:V->V->Hp->Prop}(I:Inv X pins c H s)(h:m c H fun x j=>l c j fun y d=>R x y d)
  {k:Type} {Q:k->Ub->Prop} {f:Ua->Ua->Sem k}
  (t:∀v u i x y d,Inv X pins c d i->RelV x v->RelV y u->R x y d->⇑X (f v u) Q X.xe i):
  ⇑X (eval a X.env) (fun v g=>⇑X (eval b X.env) (fun u e=>⇑X (f v u) Q X.xe e) X.xe g) X.xe s:=by
 refine thn (B pins s c H _ I h) fun v n zz1=>?_
 let⟨x,j,D,p,r⟩:=zz1
 refine thn (z pins n c j _ D r) fun u i zz2=>?_
 let⟨y,d,C,o,q⟩:=zz2
 show t v u i x y d C p o q
def tVar(i:Nat):TE:=fun a H Q=>∃v,a[i]?=some (some v)/\Q v H
def tC(v:V):TE:=fun _ H Q=>Q v H
def Zj7{i:Nat}{x:Str}{pos:Pos}(w:X.N[i]?=some x)(o:Vis X.env.scope x)(g:(x==("__debug__":Str))=false:=by decide)(j:(x==("__classdict__":Str))=false:=by decide):PE X (.Name x pos) (tVar i):=by
 intro f s n H Q I h
 let⟨v,e,h⟩:=h
 let⟨m,p,t⟩:=I.loc
 let⟨u,r,l⟩:=t i x v w e o
 have d:EP X f n Q u s:=⟨v,H,I,r,h⟩
 rcases l with⟨b,q⟩ | ⟨b,c,k,a⟩
 .exact wpAny_Name (wpAny_loadName_local I.ok.kind b p q d) g
 .rcases b with b | b
  .exact wpAny_Name (wpAny_loadName_cell I.ok.kind b k a d) g
  .exact wpAny_Name (wpAny_loadName_free I.ok.kind b k a d j) g
def Yt3{i j pos}:PE X (.Constant (.int i) j pos) (tC (.int i)):=fun _ _ _ H _ I h=>wpAny_Constant_int ⟨.int i,H,I.tok _,⟨_,rfl⟩,h⟩
def Yz9{b j pos}:PE X (.Constant (.bool b) j pos) (tC (.bl b)):=fun _ _ _ H _ I h=>Constant_bool ⟨.bl b,H,I,rfl,h⟩
def Yo8{j pos}:PE X (.Constant .none j pos) (tC .non):=fun _ _ _ H _ I h=>Constant_none ⟨.non,H,I,rfl,h⟩
def Ym9{x j pos}:PE X (.Constant (.str x) j pos) (tC (.str x)):=fun _ _ _ H _ I h=>Calls.Constant_str ⟨.str x,H,I.tok _,⟨_,rfl⟩,h⟩
def Gl(X:Cx)(x:Str):Prop:=X.env.kindOf x=some .globalImplicit
def W2{E:VSP}{pins:PLO}{s:Ub}{a:St}{H:Hp}{x:Str}{u:Ua}{pos:Pos}{Q:VSP}(I:Inv X pins a H s)(c:Gl X x)(b:X.mg x=some u)(h:Q u s)
  (d:(x==("__debug__":Str))=false:=by decide):⇑X (eval (.Name x pos) X.env) Q E s:=
 Calls.Name_function_global I.ok.kind c (Calls.loadGlobal_global (by rw[I.ok.glob];show I.mod.glob.keeps I.bk) b h) d
def N9{E:VSP}{pins:PLO}{s:Ub}{a:St}{H:Hp}{x:Str}{u:Ua}{pos:Pos}{Q:VSP}(I:Inv X pins a H s)(e:Gl X x)(d:X.mg x=none)(b:bootBuiltins x=some u)(h:Q u s)
  (c:x≠"__name__":=by decide) (f:(x==("__debug__":Str))=false:=by decide):⇑X (eval (.Name x pos) X.env) Q E s:=by
 let⟨j,i,g⟩:=I.mod.blt
 show Calls.Name_function_global I.ok.kind e (Calls.loadGlobal_builtin (by rw[I.ok.glob];show I.mod.glob.keeps I.bk) d (by rw[I.ok.blt];show i.keeps I.bk) ((g x c).trans b) h) f
def Yj4{x:Str}{v:V}{u:Ua}{pos:Pos}(b:Gl X x)(a:X.mg x=some u)(r:RelV v u)(c:(x==("__debug__":Str))=false:=by decide):PE X (.Name x pos) (tC v):=
 fun _ _ _ H _ I h=>W2 I b a ⟨v,H,I,r,h⟩ c
def Yg3{x:Str}{v:V}{u:Ua}{pos:Pos}(d:Gl X x)(c:X.mg x=none)(a:bootBuiltins x=some u)(r:RelV v u)(b:x≠"__name__":=by decide)(e:(x==("__debug__":Str))=false:=by decide):PE X (.Name x pos) (tC v):=
 fun _ _ _ H _ I h=>N9 I d c a ⟨v,H,I,r,h⟩ b e
variable{a b:Expr}{ta tb:TE}{pos:Pos}
variable{tA tB':TT}{rest:List Expr}
def tAnd(t u:TT):TT:=fun d H Q=>t d H fun c e=>if c=true then u d e Q else Q false e
def tOr(t u:TT):TT:=fun d H Q=>t d H fun c e=>if c=true then Q true e else u d e Q
def tNot(t:TT):TT:=fun d H Q=>t d H fun c e=>Q (!c) e
def Ya0(g:PT X a tA):PW X (.BoolOp .And [a] pos) tA:=by
 intro i d s f H Q I h
 refine isTrue_and (thn (g d s f H Q I h) fun c j e=>?_)
 cases c with
 | true=>show isTrue_and_nil e
 | false=>show e
def Ys9(g:PT X a tA):PW X (.BoolOp .Or [a] pos) tA:=by
 intro i d s f H Q I h
 refine isTrue_or (thn (g d s f H Q I h) fun c j e=>?_)
 cases c with
 | false=>show isTrue_or_nil e
 | true=>show e
def Yn0(m:PT X a tA)(l:PW X (.BoolOp .And (b::rest) pos) tB'):PW X (.BoolOp .And (a::b::rest) pos) (tAnd tA tB'):=by
 intro j d s e H Q I h
 refine isTrue_and (thn (m d s e H _ I h) fun c k zz3=>?_)
 let⟨i,g,f⟩:=zz3
 cases c with
 | true=>show l j d k e i Q g f
 | false=>show⟨i,g,f⟩
def X03(m:PT X a tA)(l:PW X (.BoolOp .Or (b::rest) pos) tB'):PW X (.BoolOp .Or (a::b::rest) pos) (tOr tA tB'):=by
 intro j d s e H Q I h
 refine isTrue_or (thn (m d s e H _ I h) fun c k zz4=>?_)
 let⟨i,g,f⟩:=zz4
 cases c with
 | true=>show⟨i,g,f⟩
 | false=>show l j d k e i Q g f
def Yr3(f:PT X a tA):PT X (.UnaryOp .Not a pos) (tNot tA):=by
 intro d s e H Q I h
 show isTrue_not (f d s e H (fun c g=>Q (!c) g) I h)
def Yn5{op}{t:TE}(h:PE X a t):PE X (.BoolOp op [a] pos) t:=fun c s d H Q I e=>BoolOp_one (h c s d H Q I e)
def tIf(t:TT)(ta tb:TE):TE:=fun d H Q=>t d H fun c e=>if c=true then ta d e Q else tb d e Q
def Zu9{c:Expr}(l:PT X c tA)(n:PE X a ta)(m:PE X b tb):PE X (.IfExp c a b pos) (tIf tA ta tb):=by
 intro e s f H Q I h
 refine wpAny_IfExp (thn (l e s f H _ I h) fun d g zz5=>?_)
 let⟨k,j,i⟩:=zz5
 cases d with
 | true=>show n e g f k Q j i
 | false=>show m e g f k Q j i
end
def SqL(K:Ab)(H:Hp)(a:Uc)(xs:LV):Prop:=
 Rd H a (.lst xs)\/
  ∃(o:Obj) (b:Array Ua) (n:Nat),K.lookup a=some o/\o.cls= .type "list"/\o.dict=none/\o.data= .seq b n/\b.size<=sizeLine/\Vals xs b.toList
def SqT(K:Ab)(H:Hp)(a:Uc)(xs:LV):Prop:=
 Rd H a (.tup xs)\/
  ∃(o:Obj) (b:Array Ua) (n:Nat),K.lookup a=some o/\o.cls= .type "tuple"/\o.data= .seq b n/\b.size<=sizeLine/\Vals xs b.toList
def absV:Ua->Option V
 | .none=>some .non
 | .bool b=>some (.bl b)
 | .int i _=>some (.int i)
 | .str x _=>some (.str x)
 | .bytes b _=>some (.byt b)
 | .float b _=>some (.flt b)
 | .ref a=>↑a
 | .type n=>some (.ty n)
 | _=>none
def RelV.abs{x:V}{u:Ua}(r:RelV x u):absV u=some x:=by
 cases x with
 | non=>cases r;rfl
 | bl _=>cases r;rfl
 | int _=>let⟨t,rfl⟩:=r;rfl
 | str _=>let⟨t,rfl⟩:=r;rfl
 | byt _=>let⟨t,rfl⟩:=r;rfl
 | flt _=>let⟨t,rfl⟩:=r;rfl
 | ref _=>cases r;rfl
 | ty _=>cases r;rfl
def RelV.inj{x y:V}{u:Ua}(r:RelV x u)(q:RelV y u):x=y:=Dg (r.abs.symm.trans q.abs)
def Vals.inj:∀{xs ys:LV} {us:LW},Vals xs us->Vals ys us->xs=ys:=by
 intro xs ys us h
 induction h generalizing ys with
 | nil=>intro g;cases g;rfl
 | cons r t ih=>
  intro g
  cases g with
  | cons b a=>rw[r.inj b,ih a]
section
variable{X:Cx}{pins:PLO}{σ:St}{H:Hp}{s:Ub}{a:Uc}{xs ys:LV}
def SqT.of{K:Ab}(h:H a=some (.tup xs)):SqT K H a xs:= .inl (.inl h)
def Inv.list(I:Inv X pins σ H s)(h:SqL X.K H a xs):∃its:LW,Vals xs its/\PlainL s.heap a its.toArray/\xs.length<=sizeLine:=by
 rcases h with h | ⟨o,its,n,hk,hc,hd,hs,hz,r⟩
 .let⟨z,its,n,r,e⟩:=h.ok I.hok
  show⟨its,r,⟨_,n,e,rfl,rfl,rfl⟩,z⟩
 .refine⟨its.toList,r,⟨o,n,I.kIn a o hk,hc,hd,↥hs⟩,?_⟩
  have e:=r.length
  simp only[Kc] at e
  lia
def Inv.tuple(I:Inv X pins σ H s)(h:SqT X.K H a xs):∃its:LW,Vals xs its/\IsTup s.heap a its.toArray/\xs.length<=sizeLine:=by
 rcases h with h | ⟨o,its,n,hk,hc,hs,hz,r⟩
 .let⟨z,its,r,p⟩:=h.ok I.hok
  show⟨its,r,p,z⟩
 .refine⟨its.toList,r,⟨o,I.kIn a o hk,hc,n,↥hs⟩,?_⟩
  have e:=r.length
  simp only[Kc] at e
  lia
def Inv.list_inj(I:Inv X pins σ H s)(h:SqL X.K H a xs)(h':SqL X.K H a ys):xs=ys:=by
 let⟨c,r,⟨o,n,e,_,_,d⟩,_⟩:=I.list h
 let⟨b,i,⟨j,k,f,_,_,g⟩,_⟩:=I.list h'
 rw[e] at f;cases f
 rw[d] at g
 injection g with d1 _
 have:c=b:=by simpa using congrArg Array.toList d1
 subst this
 show r.inj i
def Inv.tuple_inj(I:Inv X pins σ H s)(h:SqT X.K H a xs)(h':SqT X.K H a ys):xs=ys:=by
 let⟨c,r,⟨o,e,_,n,d⟩,_⟩:=I.tuple h
 let⟨b,i,⟨j,f,_,k,g⟩,_⟩:=I.tuple h'
 rw[e] at f;cases f
 rw[d] at g
 injection g with d1 _
 have:c=b:=by simpa using congrArg Array.toList d1
 subst this
 show r.inj i
end
abbrev Cx.wish(X:Cx)(E:VSP):Cx:={X with xe:=E}
abbrev Cx.nox(X:Cx):Cx:=X.wish fun _ _=>False
def Cx.Ok.wish{X:Cx}(a:X.Ok)(E:VSP):(X.wish E).Ok:=
 ⟨a.mod,a.kind,a.glob,a.blt,a.above,a.inj,a.has,a.cab,a.hd,a.frames,a.stk,a.exf,a.bs,a.bsz,a.noex,a.exfs,a.funs,a.frf⟩
def Cx.Ok.unwish{X:Cx}{E:VSP}(a:(X.wish E).Ok):X.Ok:=
 ⟨a.mod,a.kind,a.glob,a.blt,a.above,a.inj,a.has,a.cab,a.hd,a.frames,a.stk,a.exf,a.bs,a.bsz,a.noex,a.exfs,a.funs,a.frf⟩
section
variable{X:Cx}{pins:PLO}{σ:St}{H:Hp}{s:Ub}{E:VSP}
def Inv.wish(I:Inv X pins σ H s)(E:VSP):Inv (X.wish E) pins σ H s:=⟨I.ok.wish E,I.os,I.bare,I.base,I.loc,I.cell,I.free,I.freeC,I.pin,I.hok,I.len⟩
def Inv.unwish(I:Inv (X.wish E) pins σ H s):Inv X pins σ H s:=⟨I.ok.unwish,I.os,I.bare,I.base,I.loc,I.cell,I.free,I.freeC,I.pin,I.hok,I.len⟩
def SP.unwish{D:Ends}{f:Flow}{s':Ub}(h:SP (X.wish E) pins D f s'):SP X pins D f s':=by
 cases f with
 | next=>let⟨a,b,I,q⟩:=h;show⟨a,b,I.unwish,q⟩
 | brk=>let⟨a,b,I,q⟩:=h;show⟨a,b,I.unwish,q⟩
 | cont=>let⟨a,b,I,q⟩:=h;show⟨a,b,I.unwish,q⟩
 | ret u=>let⟨v,a,b,I,r,q⟩:=h;show⟨v,a,b,I.unwish,r,q⟩
def PSs.nox{st:List Stmt}{t:TS}(h:PSs X.nox st t):PSs X st t:=fun pins s σ H D I a=>
 Dy (h pins s σ H D (I.wish _) a) (fun _ _ q=>q.unwish) fun _ _ z=>Bk z
end
section
variable{X:Cx}{st:Stmt}{rest:List Stmt}{t u:TS}{e:Expr}{te:TE}{pos:Pos}
def Yw8:TS:=fun D a H=>D.nx a H
def tSeq(t u:TS):TS:=fun D a H=>t {D with nx:=u D} a H
def Zk7:PSs X [] Yw8:=fun _ _ a H _ I h=>Lx ⟨a,H,I,h⟩
def Bx(i:PS X st t)(g:PSs X rest u):PSs X (st::rest) (tSeq t u):=by
 intro a s c H D I h
 refine wpAny_execs_cons (thn (i a s c H {D with nx:=u D} I h) fun f d q=>?_)
 cases f with
 | next=>
  let⟨b,k,j,q⟩:=q
  show g a d b k D j q
 | ret v=>show q
 | brk=>show q
 | cont=>show q
def Inv.quiet{pins:PLO}{a:St}{H:Hp}{s:Ub}(I:Inv X pins a H s):interactive X.env=false:=by simp[interactive,I.ok.kind]
def Yx2(te:TE):TS:=fun D a H=>te a H fun _ b=>D.nx a b
def Yj2(f:PE X e te)(d:swapsWith e none pos.line X.env=pure false:=by rfl):PS X (.Expr e pos) (Yx2 te):=by
 intro a s b H D I h
 show wpAny_Expr_any (thn (f a s b H _ I h) fun v j zz6=>by let⟨x,i,g,k,c⟩:=zz6;show⟨b,i,g,c⟩) I.quiet d
def tRet(te:TE):TS:=fun D a H=>te a H D.rt
def Yo4(f:PE X e te):PS X (.Return (some e) pos) (tRet te):=by
 intro a s b H D I h
 show wpAny_Return_some (thn (f a s b H _ I h) fun v j zz7=>by let⟨x,i,g,c,d⟩:=zz7;show⟨x,b,i,g,c,d⟩)
def tIfS(c:TT)(t u:TS):TS:=fun D a H=>c a H fun b d=>if b=true then t D a d else u D a d
def Yz8{c:Expr}{a b:List Stmt}{i:TT}(n:PT X c i)(p:PSs X a t)(o:PSs X b u):PS X (.If c a b pos) (tIfS i t u):=by
 intro f s g H D I h
 refine wpAny_If (thn (n f s g H _ I h) fun d j zz8=>?_)
 let⟨m,l,k⟩:=zz8
 cases d with
 | true=>show p f j g m D l k
 | false=>show o f j g m D l k
def Yu4:TS:=fun _ _ _=>False
def Z04:PS X st Yu4:=fun _ _ _ _ _ _ h=>h.elim
end
abbrev TG:=V->St->Hp->(St->Hp->Prop)->Prop
abbrev TGs:=LV->St->Hp->(St->Hp->Prop)->Prop
def PG(X:Cx)(target:Expr)(t:TG):Prop:=
 ∀(a:PLO) (s:Ub) (c:St) (H:Hp) (v:V) (u:Ua) (Q:St->Hp->Prop),Inv X a c H s->RelV v u->t v c H Q->
  ⇑X (assign target X.env u) (fun _ e=>∃b d,Inv X a b d e/\Q b d) X.xe s
def PGs(X:Cx)(ts:List Expr)(t:TGs):Prop:=
 ∀(a:PLO) (s:Ub) (c:St) (H:Hp) (d:LV) (e:LW) (Q:St->Hp->Prop),Inv X a c H s->Vals d e->t d c H Q->
  ⇑X (assignInOrder ((assignEach ts X.env).map (·.2)) e) (fun _ g=>∃b f,Inv X a b f g/\Q b f) X.xe s
abbrev TSet:=V->V->V->Hp->(Hp->Prop)->Prop
def PSet(X:Cx)(t:TSet):Prop:=
 ∀(a:PLO) (s:Ub) (b:St) (H:Hp) (o i v:V) (c d u:Ua) (Q:Hp->Prop),Inv X a b H s->RelV o c->RelV i d->RelV v u->t o i v H Q->
  ⇑X (setItem c d u) (fun _ f=>∃e,Inv X a b e f/\Q e) X.xe s
section
variable{X:Cx}{pos:Pos}
def Zs2(i:Nat):TG:=fun v a H Q=>Q (a.set i (some v)) H
def Zi9{i:Nat}{x:Str}(d:X.N.Nodup)(hi:X.N[i]?=some x)(b:Loc X.env.scope x)(c:X.fn x=true\/X.env.scope.names.lookup x=some .local:=by first | show .inl rfl | show .inr rfl | assumption):PG X (.Name x pos) (Zs2 i):=by
 intro a s f H v u Q I r h
 show wpAny_assign_Name (Bi I d hi b r (fun g e=>⟨_,H,e,h⟩) c)
def gNil:TGs:=fun b a H Q=>b=[]/\Q a H
def Yk9(t:TG)(u:TGs):TGs:=fun c b H Q=>∃v r,c=v::r/\t v b H fun a d=>u r a d Q
def Ye6:PGs X [] gNil:=by
 intro a s b H c d Q I r h
 let⟨e,h⟩:=h
 subst e
 cases r
 show assignInOrder_nil ⟨b,H,I,h⟩
def Zv6{e:Expr}{es:List Expr}{t:TG}{u:TGs}(k:PG X e t)(j:PGs X es u)
  (i:(assignEach (e::es) X.env).map (·.2)=assign e X.env::(assignEach es X.env).map (·.2):=by rfl):PGs X (e::es) (Yk9 t u):=by
 intro a s c H o q Q I r h
 let⟨v,p,l,h⟩:=h
 subst l
 cases r with
 | cons r f=>
  rw[i]
  refine assignInOrder_cons (thn (k a s c H _ _ _ I r h) fun _ d zz9=>?_)
  let⟨b,n,m,g⟩:=zz9
  show j a d b n _ _ Q m f g
def gTup(K:Ab)(n:Nat)(t:TGs):TG:=fun v c H Q=>∃a b,v= .ref a/\SqT K H a b/\b.length=n/\t b c H Q
def Y39{es:List Expr}{k:Nat}{t:TGs}{n:Nat}(y:X.calm=true)(h:PGs X es t)
  (w:(assignEach es X.env).length=n:=by rfl) (f:(assignEach es X.env).findIdx? (·.1)=none:=by rfl):PG X (.Tuple es k pos) (gTup X.K n t):=by
 intro c s g H v u Q I r d
 let⟨a,j,A,q,x,d⟩:=d
 subst A
 cases r
 let⟨l,i,p,C⟩:=I.tuple q
 refine assign_Tuple_tuple (I.ok.hd y) p (by simp[w,<-x,i.length]) f fun z m=>?_
 have B:Inv X c g H {s with heap:=z}:=I.kept (t':=s.toks) fun b o e=>m b o (nk (Aj e)) e
 show h c _ g H j _ Q B ↥i d
def tAsg(b:TE)(g:TG):TS:=fun D a H=>b a H fun x c=>g x a c D.nx
def Zh1{b e:Expr}{d:TE}{g:TG}(n:PE X e d)(m:PG X b g)(l:swapsWithSole [b] e pos.line X.env=pure false:=by rfl)(k:swappedStores [b] e X.env=pure none:=by rfl)
  (o:(assignEach [b] X.env).map (·.2)=[assign b X.env]:=by rfl):PS X (.Assign [b] e pos) (tAsg d g):=by
 intro a s c H D I h
 refine wpAny_Assign_stores (thn (n a s c H _ I h) fun v f zz10=>?_) l k
 let⟨x,r,p,i,j⟩:=zz10
 rw[o]
 show thn (m a f c r x v _ p i j) fun _ t q=>q
end
section
variable{X:Cx}{pos:Pos}
def Y77(c:TT)(h:TS):TS:=fun D a H=>∃W:Nat->St->Hp->Prop,(∃m,W m a H)/\∀m a H,W m a H->
 c a H fun b f=>if b=true then ∃N:St->Hp->Prop,(∀d g,N d g->∃e,e<m/\W e d g)/\h {D with nx:=N,ct:=N,bk:=D.nx} a f else D.nx a f
def Zz1{c:Expr}{body:List Stmt}{t:TT}{u:TS}(x:PassesOwn (model X.prog X.w) X.A X.env X.xe)(P:PT X c t)(Q:PSs X body u):PS X (.While c body [] pos) (Y77 t u):=by
 intro d s F H D I h
 let⟨W,⟨O,J⟩,i⟩:=h
 refine wpAny_While (codeAny_whileLoop (fun n M=>∃g E,Inv X d g E M/\W n g E) ?_ O ⟨F,H,I,J⟩)
 rintro n L ⟨e,C,R,G⟩
 refine Kn x (thn (P d L e C _ R (i n e C G)) fun b K zz11=>?_)
 let⟨B,z,l⟩:=zz11
 cases b with
 | true=>
  let⟨N,y,l⟩:=l
  rw[nh rfl]
  refine Kn x (thn (Q d K e B _ z l) fun f S k=>?_)
  cases f with
  | next=>
   let⟨a,j,r,o⟩:=k
   let⟨p,q,m⟩:=y a j o
   show⟨p,q,a,j,r,m⟩
  | cont=>
   let⟨a,j,r,o⟩:=k
   let⟨p,q,m⟩:=y a j o
   show⟨p,q,a,j,r,m⟩
  | brk=>show k
  | ret v=>show k
 | false=>
  rw[ng Bf9]
  show Lx ⟨e,B,z,l⟩
end
structure It where
 go:Nat->Hp->Prop
 yld:Nat->Hp->V->Hp->Prop
 stop:Nat->Hp->Prop
def FpOk(X:Cx)(pins:PLO)(H:Hp)(b:Uc):Prop:=
 H b=none/\b≠X.env.locals/\b∉X.fs/\(b∈X.ex\/X.s₀⁻¹<=b)/\(∀x c,X.env.cells.lookup x=some c->c≠b)/\∀p∈X.pn++pins,p.1≠b
def Inv.fpOk{X:Cx}{pins:PLO}{d:St}{H H':Hp}{s:Ub}{b:Uc}(I:Inv X pins d H s)(a:s⁻¹<=b)(g:H' b=none):FpOk X pins H' b:=by
 refine⟨g,nq (ni I.lt a),I.nofs a,.inr (nj I.sz a),fun x c e z=>?_,fun p f z=>?_⟩
 .let⟨v,q⟩:=I.cell x c e
  show absurd (ni q.lt (by rw[z];show a)) (nu _)
 .exact absurd (ni (Aj (I.pin p f).1) (by rw[z];show a)) (nu _)
structure Turn(P:Ud)(w:Ue)(K:Ab)(tg:Expr)(J:It)(fp:List Uc)(it:Uc)(tn:Nat->Uf->Prop):Prop where
 mem:it∈fp
 obj:∀i h,tn i h->∀b∈fp,∃o,h.get? b=some o/\∀v,o.data≠ .cell v
 keep:∀i h h',tn i h->(∀b∈fp,∀o,h.get? b=some o->h'.get? b=some o)->tn i h'
 item:∀(X:Cx),X.prog=P->X.w=w->X.K=K->X.calm=true->∀(i:Nat) (pins:PLO) (s:Ub) (σ:St) (H:Hp) (E:VSP),Inv X pins σ H s->(∀b∈fp,FpOk X pins H b)->tn i s.heap->J.go i H->
  wpAny (model P w) X.A (pyNext (.ref it)) (fun r s1=>∃u,r=some u/\
   wpAny (model P w) X.A (letOwnedTupleGo tg (.ref it) u) (fun _ s2=>∃x H',Inv X pins σ H' s2/\RelV x u/\J.yld i H x H'/\tn (i+1) s2.heap/\∀b∈fp,H' b=none) E s1) E s
 done:∀(X:Cx),X.prog=P->X.w=w->X.K=K->X.calm=true->∀(i:Nat) (pins:PLO) (s:Ub) (σ:St) (H:Hp) (E:VSP),Inv X pins σ H s->(∀b∈fp,FpOk X pins H b)->tn i s.heap->J.stop i H->
  wpAny (model P w) X.A (pyNext (.ref it)) (fun r s1=>r=none/\Inv X pins σ H s1) E s
 self:∀(A:Around) (i:Nat) (s:Ub) (Q:VSP) (E:VSP),tn i s.heap->Q (.ref it) s->wpAny (model P w) A (pyIter (.ref it)) Q E s
abbrev TI:=St->Hp->(It->Hp->Prop)->Prop
def PIE(X:Cx)(pins:PLO)(h:St)(i:Expr)(R:It->Hp->Prop)(a:Ua)(e:Ub):Prop:=
 ∃(f:Uc) (g:List Uc) (d:Nat->Uf->Prop) (J:It) (c:Hp),a= .ref f/\Inv X pins h c e/\Turn X.prog X.w X.K i J g f d/\d 0 e.heap/\(∀b∈g,FpOk X pins c b)/\R J c
def PI(X:Cx)(d iter:Expr)(c:TI):Prop:=
 ∀(a:PLO) (s:Ub) (b:St) (H:Hp) (R:It->Hp->Prop),Inv X a b H s->c b H R->
  ⇑X (eval iter X.env) (fun v e=>⇑X (pyIter v) (PIE X a b d R) X.xe e) X.xe s
def Y18{M:Model}{A:Around}{E:VSP}{s:Ub}{b:Expr}{c:Uc}{u:Ua}{o:Obj}{n:String}{vs:Array Ua}{Q:Unit->Ub->Prop}(d:s.heap.get? c=some o)(g:o.cls= .type n)(f:o.data= .fields vs)
  (e:["enumerate","zip","dict_itemiterator","dict_reverseitemiterator","odict_iterator","itertools.zip_longest","itertools.pairwise"].contains n=false) (a:Q () s):wpAny M A (letOwnedTupleGo b (.ref c) u) Q E s:=by
 unfold letOwnedTupleGo
 cases b<;>first
  | show Ai a
  |(cases u<;>first
    | show Ai a
    |(refine Aa (wpAny_load d ?_)
      rw[g,f]
      change wpAny M A (if (["enumerate","zip","dict_itemiterator","dict_reverseitemiterator","odict_iterator","itertools.zip_longest","itertools.pairwise"].contains n&&vs[0]?==some (rawInt _))=true then _ else _) Q E s
      rw[ng (by intro h;rw[e,Bool.false_and] at h;cases h)]
      show Ai a))
def Itl(K:Ab)(a:Uc):It:=
 ⟨fun i H=>∃b x,SqL K H a b/\b[i]?=some x,fun i H x c=>c=H/\∀b,SqL K H a b->b[i]?=some x,fun i H=>∃b,SqL K H a b/\b.length<=i⟩
def Itt(K:Ab)(a:Uc):It:=
 ⟨fun i H=>∃b x,SqT K H a b/\b[i]?=some x,fun i H x c=>c=H/\∀b,SqT K H a b->b[i]?=some x,fun i H=>∃b,SqT K H a b/\b.length<=i⟩
def Itr(lo:Int)(n:Nat):It:=⟨fun i _=>i<n,fun i H x a=>a=H/\x= .int (lo+i),fun i _=>n<=i⟩
def Zq1{P:Ud}{w:Ue}{K:Ab}{S:Expr}(a j:Uc):Turn P w K S (Itl K a) [j] j (fun i h=>h.IsListIter j a i) where
 mem:=by simp
 obj:=fun i h f b l=>by
  have e:b=j:=by simpa using l
  subst e
  let⟨o,e,c,d⟩:=f
  show⟨o,e,fun v z=>by rw[d] at z;cases z⟩
 keep:=fun i h r f k=>f.at fun o e=>k j (by simp) o e
 item:=by
  intro X D B F Q i g s O H E I q f C
  subst D B F
  let⟨R,x,n,A⟩:=C
  let⟨y,t,p,V⟩:=I.list n
  let⟨u,Z,U⟩:=t.get A
  let⟨N,M,f2,L,J,G⟩:=q j (by simp)
  refine wpAny_pyNext_list_item f p.isList (x:=u) ↥Z fun r m T=>?_
  have I1:Inv X g O H {s with heap:=r}:=I.turned (t':=s.toks) (fun b o l e=>(T.2 b l).trans e) N M L J G
  let⟨o,e,c,d⟩:=id m
  show⟨u,rfl,Y18 (s:={s with heap:=r}) e c d 'd' ⟨x,H,I1,U,⟨rfl,fun ys Y=>by rw[I.list_inj Y n];show A⟩,m,fun b l=>(q b l).1⟩⟩
 done:=by
  intro X D B F Q i g s O H E I q f C
  subst D B F
  let⟨R,n,A⟩:=C
  let⟨y,t,p,V⟩:=I.list n
  let⟨N,M,f2,L,J,G⟩:=q j (by simp)
  have hl:=t.length
  show wpAny_pyNext_list_end (I.ok.hd Q) f p.isList (by simp;lia) fun r eb=>⟨rfl,I.turned (t':=s.toks) (fun b o l e=>eb b o l e) N M L J G⟩
 self:=fun _ _ _ _ _ f h=>wpAny_pyIter_listiter f h
def Zc3{P:Ud}{w:Ue}{K:Ab}{S:Expr}(a l:Uc):Turn P w K S (Itt K a) [l] l (fun i h=>h.IsTupleIter l a i) where
 mem:=by simp
 obj:=fun i h f b m=>by
  have e:b=l:=by simpa using m
  subst e
  let⟨o,e,c,d⟩:=f
  show⟨o,e,fun v z=>by rw[d] at z;cases z⟩
 keep:=fun i h t f k=>f.at fun o e=>k l (by simp) o e
 item:=by
  intro X D B F Q i g s O H E I r f C
  subst D B F
  let⟨R,x,q,A⟩:=C
  let⟨j,y,p,V⟩:=I.tuple q
  let⟨u,Z,U⟩:=y.get A
  let⟨N,M,f2,L,J,G⟩:=r l (by simp)
  refine wpAny_pyNext_tuple_item f (show s.heap.IsTuple a j.toArray from p) (x:=u) ↥Z fun t n T=>?_
  have I1:Inv X g O H {s with heap:=t}:=I.turned (t':=s.toks) (fun b o m e=>(T.2 b m).trans e) N M L J G
  let⟨o,e,c,d⟩:=id n
  show⟨u,rfl,Y18 (s:={s with heap:=t}) e c d 'd' ⟨x,H,I1,U,⟨rfl,fun ys Y=>by rw[I.tuple_inj Y q];show A⟩,n,fun b m=>(r b m).1⟩⟩
 done:=by
  intro X D B F Q i g s O H E I r f C
  subst D B F
  let⟨R,q,A⟩:=C
  let⟨j,y,p,V⟩:=I.tuple q
  let⟨N,M,f2,L,J,G⟩:=r l (by simp)
  have hl:=y.length
  show wpAny_pyNext_tuple_end (I.ok.hd Q) f (show s.heap.IsTuple a j.toArray from p) (by simp;lia) fun t eb=>⟨rfl,I.turned (t':=s.toks) (fun b o m e=>eb b o m e) N M L J G⟩
 self:=fun _ _ _ _ _ f h=>wpAny_pyIter_tupleiter f h
def Zd1{P:Ud}{w:Ue}{K:Ab}{J:Expr}(d:Uc)(lo:Int)(n:Nat):Turn P w K J (Itr lo n) [d] d (fun i h=>IsRangeIter h d (lo+(i:Nat) * 1) ((n:Int) - (i:Nat)) 1) where
 mem:=by simp
 obj:=fun i h a b f=>by
  have e:b=d:=by simpa using f
  subst e
  show⟨_,a,fun v z=>by
   have G:Data.fields _=Data.cell v:=z
   cases G⟩
 keep:=fun i h l a k=>k d (by simp) _ a
 item:=by
  intro X r m u q i c s D H E I j a p
  subst r m u
  let⟨C,B,N,A,y,x⟩:=j d (by simp)
  have W:=Walks.range (prog:=X.prog) (w:=X.w) (I.ok.hd q) d lo 1 n
  refine W.item i s _ _ p a fun v l F M g L=>?_
  let⟨t,rfl⟩:=M
  have Q:Inv X c D H {s with heap:=l,toks:=F}:=I.turned (fun b o f e=>L b o ↥f e) C B A y x
  refine⟨_,rfl,Y18 (s:={s with heap:=l,toks:=F}) (n:="range_iterator") g rfl rfl 'd' ⟨.int (lo+i),H,Q,⟨t,?_⟩,⟨rfl,rfl⟩,g,fun b f=>(j b f).1⟩⟩
  rw[Int.mul_one]
 done:=by
  intro X r m u q i c s D H E I j a p
  subst r m u
  let⟨C,B,N,A,y,x⟩:=j d (by simp)
  show wpAny_pyNext_range_end (I.ok.hd q) a (by have:n<=i:=p;lia) fun l O=>⟨rfl,I.turned (t':=s.toks) (fun b o f e=>O b o f e) C B A y x⟩
 self:=fun _ _ _ _ _ a h=>wpAny_pyIter_rangeiter a h
section
variable{X:Cx}{tg:Expr}
def Zx8{pins:PLO}{a:St}{H:Hp}{s:Ub}{R:It->Hp->Prop}{E:VSP}{lo hi:Int}{t u v:Tok}{tk:Nat}(I:Inv X pins a H s)(i:-(2 ^ 62)<=lo)(h:lo<2 ^ 62)(g:-(2 ^ 62)<=hi)(f:hi<2 ^ 62)
  (q:R (Itr lo (hi - lo).toNat) H):⇑X (pyIter (.ref s⁻¹)) (PIE X pins a tg R) E {s with heap:=s.heap.push {cls:= .type "range",data:= .fields #[.int lo t,.int hi u,.int 1 v]},toks:=tk}:=by
 refine wpAny_pyIter_range (IsRange.new ..) (small_one i h g f) ?_
 have c:Inv X pins a H {s with heap:=s.heap.push {cls:= .type "range",data:= .fields #[.int lo t,.int hi u,.int 1 v]},toks:=tk}:=I.kept fun b o e=>Ah _ e
 refine⟨(s.heap.push {cls:= .type "range",data:= .fields #[.int lo t,.int hi u,.int 1 v]}).objs.size,[(s.heap.push {cls:= .type "range",data:= .fields #[.int lo t,.int hi u,.int 1 v]}).objs.size],_,_,H,rfl,
  c.kept (t':=tk) fun b o e=>Ah _ e,Zd1 _ lo (hi - lo).toNat,?_,fun b d=>?_,q⟩
 .have k:lo+((0:Nat):Int) * 1=lo:=by simp
  have j:(((hi - lo).toNat:Nat):Int) - ((0:Nat):Int)=Builtin.Range.rangeSize lo hi 1:=by rw[rangeSize_one];split<;>lia
  change IsRangeIter _ _ (lo+((0:Nat):Int) * 1) ((((hi - lo).toNat:Nat):Int) - ((0:Nat):Int)) 1
  rw[k,j]
  show Aq _ rfl
 .have e:b=(s.heap.push {cls:= .type "range",data:= .fields #[.int lo t,.int hi u,.int 1 v]}).objs.size:=by simpa using d
  subst e
  show c.fpOk (nc _) (c.hok.fresh (nc _))
def Yx7(c:TA):TI:=fun a H R=>c a H fun b d=>∃j:Int,b=[.int j]/\ -(2 ^ 62)<=j/\j<2 ^ 62/\R (Itr 0 j.toNat) d
def Ze4{a:Expr}{d:TA}{p pos:Pos}(n:Gl X "range")(m:X.mg "range"=none)(o:PA X [a] d)(l:starEach [a] X.env=[(false,eval a X.env)]:=by rfl):PI X tg (.Call (.Name "range" p) [a] [] pos) (Yx7 d):=by
 intro b s f H R I h
 refine Call_ (N9 I n m boot_range (Kh (thn (o pos b s f H _ I h) fun w x zz12=>?_) l rfl))
 let⟨v,y,u,i,c⟩:=zz12
 let⟨j,e,c,k,q⟩:=c
 subst e
 cases i with
 | cons r g=>
  cases g
  let⟨t,rfl⟩:=r
  show call_range_1 (Zx8 u 'o' 'o' c k ↥q)
def tFor(f:TI)(g:TG)(h:TS):TS:=fun D a H=>f a H fun J k=>∃W:Nat->Nat->St->Hp->Prop,(∃m,W 0 m a k)/\∀i m a H,W i m a H->
 (J.stop i H/\D.nx a H)\/(J.go i H/\∃N:St->Hp->Prop,(∀b c,N b c->∃e,e<m/\W (i+1) e b c)/\∀x c,J.yld i H x c->g x a c fun d j=>h {D with nx:=N,ct:=N,bk:=D.nx} d j)
def Bz(a:List Uc)(h:Uf):PLO:=a.filterMap fun b=>(h.get? b).map fun o=>(b,o)
def Yk{a:List Uc}{h:Uf}{b:Uc}{o:Obj}(c:b∈a)(e:h.get? b=some o):(b,o)∈Bz a h:=List.mem_filterMap.mpr ⟨b,c,by rw[e];rfl⟩
def Zn8{a:List Uc}{h:Uf}{p:Uc×Obj}(c:p∈Bz a h):p.1∈a/\h.get? p.1=some p.2:=by
 let⟨b,d,e⟩:=List.mem_filterMap.mp c
 cases q:h.get? b with
 | none=>rw[q] at e;cases e
 | some o=>
  rw[q] at e
  have f:(b,o)=p:=Dg e
  subst f
  show⟨d,q⟩
def Inv.pinned{pins:PLO}{c:St}{H:Hp}{s:Ub}{a:List Uc}(I:Inv X pins c H s)(j:∀b∈a,FpOk X pins H b)(i:∀b∈a,∃o,s.heap.get? b=some o/\∀v,o.data≠ .cell v):Inv X (pins++Bz a s.heap) c H s:=
 I.pins_of fun p h=>(Az.mp h).elim (fun z=>I.pin p (Ay _ z)) fun z=>by
  let⟨f,e⟩:=Zn8 z
  let⟨m,l,k,_⟩:=j p.1 f
  let⟨o,g,d⟩:=i p.1 f
  rw[e] at g;cases g
  show⟨e,m,l,k,d⟩
def Inv.unpinned{pins pl:PLO}{a:St}{H:Hp}{s:Ub}(I:Inv X (pins++pl) a H s):Inv X pins a H s:=I.pins_of fun p b=>I.pin p (Ay _ (Kw _ b))
def Y54{iter:Expr}{body:List Stmt}{wi:TI}{g:TG}{tb:TS}{pos:Pos}(hp:PassesOwn (model X.prog X.w) X.A X.env X.xe)(hc:X.calm=true)(hi:PI X tg iter wi)(hg:PG X tg g)(hb:PSs X body tb)
  (hs:∀x,foldedSetIterable iter X.env x=pure x:=by intro _;rfl):PS X (.For tg iter body [] pos) (tFor wi g tb):=by
 intro pins s σ H D I h
 refine wpAny_For (thn (hi pins s σ H _ I h) fun v s1 h1=>thn h1 fun itv s2 h2=>?_) hs
 let⟨it,fp,tn,J,H2,e,I2,T,st2,f2,W,⟨m0,w0⟩,turn⟩:=h2
 subst e
 have stat:∀{H':Hp},(∀b∈fp,H' b=none)->∀b∈fp,FpOk X pins H' b:=fun hn b hb=>⟨hn b hb,(f2 b hb).2⟩
 refine codeAny_forLoop_any (fun n s'=>∃i σ' H',Inv X pins σ' H' s'/\tn i s'.heap/\(∀b∈fp,H' b=none)/\W i n σ' H') ?_ m0 ⟨0,σ,H2,I2,st2,fun b hb=>(f2 b hb).1,w0⟩
 rintro n s3 ⟨i,σ3,H3,I3,st3,fr3,w3⟩
 rcases turn i n σ3 H3 w3 with⟨stop,qn⟩ | ⟨go,N,hN,step⟩
 .refine Kn hp (thn (T.done X rfl rfl rfl hc i pins s3 σ3 H3 X.xe I3 (stat fr3) st3 stop) fun r s4 zz13=>?_)
  let⟨hr,I4⟩:=zz13
  subst hr
  show Lx ⟨σ3,H3,I4,qn⟩
 .refine Kn hp (thn (T.item X rfl rfl rfl hc i pins s3 σ3 H3 X.xe I3 (stat fr3) st3 go) fun r s4 zz14=>?_)
  let⟨u,hr,h4⟩:=zz14
  subst hr
  refine Kn hp (thn h4 fun _ s5 zz15=>?_)
  let⟨x,H5,I5,r5,y5,st5,fr5⟩:=zz15
  have I5':=I5.pinned (stat fr5) (T.obj _ _ st5)
  refine Kn hp (thn (hg _ s5 σ3 H5 x u _ I5' r5 (step x H5 y5)) fun _ s6 zz16=>?_)
  let⟨σ6,H6,I6,q6⟩:=zz16
  refine Kn hp (thn (hb _ s6 σ6 H6 _ I6 q6) fun f s7 q7=>?_)
  have again:∀{σ7:St} {H7:Hp},Inv X (pins++Bz fp s5.heap) σ7 H7 s7->N σ7 H7->∃m,m<n/\∃i σ' H',Inv X pins σ' H' s7/\tn i s7.heap/\(∀b∈fp,H' b=none)/\W i m σ' H':=fun{σ7 H7} I7 n7=>by
   let⟨m',hm,w7⟩:=hN σ7 H7 n7
   refine⟨m',hm,i+1,σ7,H7,I7.unpinned,T.keep _ _ _ st5 fun b hb o e=>(I7.pin (b,o) (Ay _ (Ay _ (Yk hb e)))).1,fun b hb=>?_,w7⟩
   let⟨o,e,d⟩:=T.obj _ _ st5 b hb
   show(I7.pin (b,o) (Ay _ (Ay _ (Yk hb e)))).2.1
  cases f with
  | next=>let⟨σ7,H7,I7,n7⟩:=q7;show again I7 n7
  | cont=>let⟨σ7,H7,I7,n7⟩:=q7;show again I7 n7
  | brk=>let⟨σ7,H7,I7,q7⟩:=q7;show⟨σ7,H7,I7.unpinned,q7⟩
  | ret v=>let⟨x7,σ7,H7,I7,r7,q7⟩:=q7;show⟨x7,σ7,H7,I7.unpinned,r7,q7⟩
end
def J7{c:TT}{j:TS}{D:Ends}{a:St}{H:Hp}(i:St->Hp->Prop)(g:St->Hp->Nat)(h0:i a H)
  (o:∀a H,i a H->c a H fun b e=>if b=true then j {D with nx:=fun d f=>i d f/\g d f<g a H,ct:=fun d f=>i d f/\g d f<g a H,bk:=D.nx} a e else D.nx a e)
  (h:∀a H Q k,(∀b e,Q b e->k b e)->c a H Q->c a H k):Y77 c j D a H:=by
 refine⟨fun m a H=>m=g a H/\i a H,⟨_,rfl,h0⟩,?_⟩
 rintro m a H ⟨rfl,p⟩
 refine h a H _ _ (fun b e q=>?_) (o a H p)
 cases b with
 | true=>show⟨_,fun d f zz17=>by let⟨n,l⟩:=zz17;show⟨_,l,rfl,n⟩,q⟩
 | false=>show q
abbrev R2:=V->V->Hp->VK->Prop
def OpR(X:Cx)(f:Ua->Ua->Sem Ua)(r:R2):Prop:=
 ∀(a:PLO) (s:Ub) (b:St) (H:Hp) (x y:V) (v u:Ua) (Q:VK),Inv X a b H s->RelV x v->RelV y u->r x y H Q->
  ⇑X (f v u) (EP X a b Q) X.xe s
def UnR(X:Cx)(f:Ua->Sem Ua)(r:V->Hp->VK->Prop):Prop:=
 ∀(a:PLO) (s:Ub) (b:St) (H:Hp) (x:V) (v:Ua) (Q:VK),Inv X a b H s->RelV x v->r x H Q->
  ⇑X (f v) (EP X a b Q) X.xe s
def V2(X:Cx)(f:Ua)(r:LV->Hp->VK->Prop):Prop:=
 ∀(a:PLO) (s:Ub) (b:St) (H:Hp) (c:LV) (d:LW) (Q:VK),Inv X a b H s->Vals c d->r c H Q->
  ⇑X (call f d) (EP X a b Q) X.xe s
def TruR(X:Cx)(r:V->Hp->(Bool->Hp->Prop)->Prop):Prop:=
 ∀(a:PLO) (s:Ub) (b:St) (H:Hp) (x:V) (v:Ua) (Q:Bool->Hp->Prop),Inv X a b H s->RelV x v->r x H Q->
  ⇑X (truthy v) (TP X a b Q) X.xe s
def tOp(r:R2)(c b:TE):TE:=fun a H Q=>c a H fun x e=>b a e fun y d=>r x y d Q
def tUn(r:V->Hp->VK->Prop)(b:TE):TE:=fun a H Q=>b a H fun x c=>r x c Q
def rI(C:Int->Int->Prop)(g:Int->Int->V):R2:=fun x y H Q=>∃i j,x= .int i/\y= .int j/\C i j/\Q (g i j) H
def rI0(g:Int->Int->V):R2:=fun x y H Q=>∃i j,x= .int i/\y= .int j/\Q (g i j) H
def rU(g:Int->V):V->Hp->VK->Prop:=fun x H Q=>∃i,x= .int i/\Q (g i) H
section
variable{X:Cx}{a b c:Expr}{ta tb tc:TE}{pos:Pos}
def binT(t:PE X a ta)(r:PE X b tb){pins:PLO}{s:Ub}{d:St}{H:Hp}{R:V->V->Hp->Prop}(I:Inv X pins d H s)
  (h:ta d H fun x k=>tb d k fun y e=>R x y e) {Q:VSP} {f:Ua->Ua->Sem Ua}
  (q:∀v u j x y e,Inv X pins d e j->RelV x v->RelV y u->R x y e->⇑X (f v u) Q X.xe j):
  ⇑X (eval a X.env) (fun v i=>⇑X (eval b X.env) (fun u g=>⇑X (f v u) Q X.xe g) X.xe i) X.xe s:=by
 refine thn (t pins s d H _ I h) fun v l zz18=>?_
 let⟨x,k,B,n,p⟩:=zz18
 refine thn (r pins l d k _ B p) fun u j zz19=>?_
 let⟨y,e,z,m,o⟩:=zz19
 show q v u j x y e z n m o
def Yy0{op:Operator}{r:R2}(j:OpR X (binaryOp op) r)(l:PE X a ta)(k:PE X b tb):PE X (.BinOp a op b pos) (tOp r ta tb):=by
 intro d s e H Q I h
 show wpAny_BinOp (binT l k I h fun v u f x y n m i g q=>j d f e n x y v u Q m i g q)
def Yz3{op:UnaryOp}{r:V->Hp->VK->Prop}(j:UnR X (unaryOp op) r)(k:PE X a ta):PE X (.UnaryOp op a pos) (tUn r ta):=by
 intro d s e H Q I h
 show UnaryOp_ (thn (k d s e H _ I h) fun v f zz20=>by let⟨x,m,l,g,i⟩:=zz20;show j d f e m x v Q l g i)
def opI{f:Ua->Ua->Sem Ua}{C:Int->Int->Prop}{g:Int->Int->Int}
  (d:∀(i j:Int) (t u:Tok) (s:Ub) (Q:VSP) (E:VSP),C i j->Q (.int (g i j) s.toks) {s with toks:=s.toks+1}->⇑X (f (.int i t) (.int j u)) Q E s):
  OpR X f (rI C fun i j=> .int (g i j)):=by
 intro e s o H x y v u Q I m l h
 let⟨i,j,rfl,rfl,n,q⟩:=h
 let⟨t,rfl⟩:=m
 let⟨k,rfl⟩:=l
 show d i j t k s _ _ n ⟨.int (g i j),H,I.tok _,⟨_,rfl⟩,q⟩
def opI0{f:Ua->Ua->Sem Ua}{g:Int->Int->Int}
  (d:∀(i j:Int) (t u:Tok) (s:Ub) (Q:VSP) (E:VSP),Q (.int (g i j) s.toks) {s with toks:=s.toks+1}->⇑X (f (.int i t) (.int j u)) Q E s):
  OpR X f (rI0 fun i j=> .int (g i j)):=by
 intro e s n H x y v u Q I m l h
 let⟨i,j,rfl,rfl,q⟩:=h
 let⟨t,rfl⟩:=m
 let⟨k,rfl⟩:=l
 show d i j t k s _ _ ⟨.int (g i j),H,I.tok _,⟨_,rfl⟩,q⟩
def opB0{f:Ua->Ua->Sem Ua}{g:Int->Int->Bool}
  (d:∀(i j:Int) (t u:Tok) (s:Ub) (Q:VSP) (E:VSP),Q (.bool (g i j)) s->⇑X (f (.int i t) (.int j u)) Q E s):
  OpR X f (rI0 fun i j=> .bl (g i j)):=by
 intro e s n H x y v u Q I m l h
 let⟨i,j,rfl,rfl,q⟩:=h
 let⟨t,rfl⟩:=m
 let⟨k,rfl⟩:=l
 show d i j t k s _ _ ⟨.bl (g i j),H,I,rfl,q⟩
def CPow(i j:Int):Prop:=0<=j/\j<=1000000/\i.natAbs<2 ^ 64
def CMul(i j:Int):Prop:=(-(2 ^ 64)<i/\i<2 ^ 64)\/(-(2 ^ 64)<j/\j<2 ^ 64)
def CMul.ok{i j:Int}(h:CMul i j):IntMulOk i j:=by
 rcases h with⟨e,d⟩ | ⟨e,d⟩
 .exact .of_left (intBits_le_64 e d)
 .exact .of_right (intBits_le_64 e d)
def Yr0:OpR X (binaryOp .Add) (rI0 fun i j=> .int (i+j)):=opI0 fun _ _ _ _ _ _ _ q=>add_int q
def Yv3:OpR X (binaryOp .Sub) (rI0 fun i j=> .int (i - j)):=opI0 fun _ _ _ _ _ _ _ q=>sub_int q
def Yg8:OpR X (binaryOp .Mod) (rI (fun _ j=>j≠0) fun i j=> .int (i.fmod j)):=opI fun _ _ _ _ _ _ _ d q=>mod_int' d q
def Yq7:OpR X (binaryOp .Pow) (rI CPow fun i j=> .int (i ^ j.toNat)):=opI fun _ _ _ _ _ _ _ d q=>pow_int_small d.1 d.2.1 d.2.2 q
def Ym1:OpR X (binaryOp .BitAnd) (rI0 fun i j=> .int (Ma i j)):=opI0 fun _ _ _ _ _ _ _ q=>and_int q
def Yv2:OpR X (binaryOp .BitXor) (rI0 fun i j=> .int (Mb i j)):=opI0 fun _ _ _ _ _ _ _ q=>xor_int q
def unI{f:Ua->Sem Ua}{g:Int->Int}
  (d:∀(i:Int) (t:Tok) (s:Ub) (Q:VSP) (E:VSP),Q (.int (g i) s.toks) {s with toks:=s.toks+1}->⇑X (f (.int i t)) Q E s):
  UnR X f (rU fun i=> .int (g i)):=by
 intro e s k H x v Q I j h
 let⟨i,rfl,q⟩:=h
 let⟨t,rfl⟩:=j
 show d i t s _ _ ⟨.int (g i),H,I.tok _,⟨_,rfl⟩,q⟩
def Yl9:UnR X (unaryOp .USub) (rU fun i=> .int (-i)):=unI fun _ _ _ _ _ q=>neg_int q
end
def scal:V->V->Bool
 | .non,.non=>true | .non,.int _=>true | .int _,.non=>true | .non,.bl _=>true | .bl _,.non=>true | .non,.str _=>true | .str _,.non=>true
 | .int _,.int _=>true | .bl _,.bl _=>true | .str _,.str _=>true | .byt _,.byt _=>true
 | .int _,.str _=>true | .str _,.int _=>true | .bl _,.str _=>true | .str _,.bl _=>true
 | _,_=>false
def rEq:R2:=fun x y H Q=>scal x y=true/\Q (.bl (decide (x=y))) H
def rNe:R2:=fun x y H Q=>scal x y=true/\Q (.bl (!decide (x=y))) H
def Zo6{i j:Int}:decide (V.int i=V.int j)=(i==j):=by
 rw[Bool.eq_iff_iff]
 simp
def Y69{i j:Bool}:decide (V.bl i=V.bl j)=(i==j):=by
 rw[Bool.eq_iff_iff]
 simp
def Zk0{i j:Str}:decide (V.str i=V.str j)=(i==j):=by
 rw[Bool.eq_iff_iff]
 simp
def Zq9{i j:Array UInt8}:decide (V.byt i=V.byt j)=(i.toList==j.toList):=by
 rw[Bool.eq_iff_iff]
 cases i
 cases j
 simp
section
variable{X:Cx}{a b c:Expr}{ta tb tc:TE}{pos:Pos}
def Zo{pins:PLO}{d:St}{H:Hp}{s:Ub}{Q:VK}{k f:Bool}(I:Inv X pins d H s)(q:Q (.bl k) H)(e:k=f):EP X pins d Q (.bool f) s:=by
 subst e
 show⟨.bl k,H,I,rfl,q⟩
def Yw6:OpR X (compareOp .Eq) rEq:=by
 intro k s l H x y v u Q I g d h
 let⟨f,q⟩:=h
 cases x with
 | non=>
  cases g
  cases y with
  | non=>cases d;show PySem.EqNone.eq_none_none (Zo I q (by simp))
  | bl j=>cases d;show PySem.EqNone.eq_none_bool (Zo I q (by simp))
  | int j=>let⟨e,rfl⟩:=d;show PySem.EqNone.eq_none_int (Zo I q (by simp))
  | str j=>let⟨e,rfl⟩:=d;show PySem.EqNone.eq_none_str (Zo I q (by simp))
  | _=>show absurd (show false=true from f) Bf9
 | bl i=>
  cases g
  cases y with
  | non=>cases d;show PySem.EqNone.eq_bool_none (Zo I q (by simp))
  | bl j=>cases d;show eq_bool (Zo I q Y69)
  | str j=>let⟨e,rfl⟩:=d;show PySem.EqMixed.eq_bool_str (Zo I q (by simp))
  | _=>show absurd (show false=true from f) Bf9
 | int i=>
  let⟨t,rfl⟩:=g
  cases y with
  | non=>cases d;show PySem.EqNone.eq_int_none (Zo I q (by simp))
  | int j=>let⟨e,rfl⟩:=d;show eq_int (Zo I q Zo6)
  | str j=>let⟨e,rfl⟩:=d;show PySem.EqMixed.eq_int_str (Zo I q (by simp))
  | _=>show absurd (show false=true from f) Bf9
 | str i=>
  let⟨t,rfl⟩:=g
  cases y with
  | non=>cases d;show PySem.EqNone.eq_str_none (Zo I q (by simp))
  | bl j=>cases d;show PySem.EqMixed.eq_str_bool (Zo I q (by simp))
  | int j=>let⟨e,rfl⟩:=d;show PySem.EqMixed.eq_str_int (Zo I q (by simp))
  | str j=>let⟨e,rfl⟩:=d;show eq_str (Zo I q Zk0)
  | _=>show absurd (show false=true from f) Bf9
 | byt i=>
  let⟨t,rfl⟩:=g
  cases y with
  | byt j=>let⟨e,rfl⟩:=d;show PySem.W.eq_bytes (Zo I q Zq9)
  | _=>show absurd (show false=true from f) Bf9
 | _=>cases y<;>show absurd (show false=true from f) Bf9
def Yz0:OpR X (compareOp .NotEq) rNe:=by
 intro k s l H x y v u Q I g d h
 let⟨f,q⟩:=h
 cases x with
 | non=>
  cases g
  cases y with
  | non=>cases d;show PySem.EqNone.ne_none_none (Zo I q (by simp))
  | bl j=>cases d;show PySem.EqNone.ne_none_bool (Zo I q (by simp))
  | int j=>let⟨e,rfl⟩:=d;show PySem.EqNone.ne_none_int (Zo I q (by simp))
  | str j=>let⟨e,rfl⟩:=d;show PySem.EqNone.ne_none_str (Zo I q (by simp))
  | _=>show absurd (show false=true from f) Bf9
 | bl i=>
  cases g
  cases y with
  | non=>cases d;show PySem.EqNone.ne_bool_none (Zo I q (by simp))
  | bl j=>cases d;show ne_bool (Zo I q (congrArg not Y69))
  | str j=>let⟨e,rfl⟩:=d;show PySem.EqMixed.ne_bool_str (Zo I q (by simp))
  | _=>show absurd (show false=true from f) Bf9
 | int i=>
  let⟨t,rfl⟩:=g
  cases y with
  | non=>cases d;show PySem.EqNone.ne_int_none (Zo I q (by simp))
  | int j=>let⟨e,rfl⟩:=d;show ne_int (Zo I q (congrArg not Zo6))
  | str j=>let⟨e,rfl⟩:=d;show PySem.EqMixed.ne_int_str (Zo I q (by simp))
  | _=>show absurd (show false=true from f) Bf9
 | str i=>
  let⟨t,rfl⟩:=g
  cases y with
  | non=>cases d;show PySem.EqNone.ne_str_none (Zo I q (by simp))
  | bl j=>cases d;show PySem.EqMixed.ne_str_bool (Zo I q (by simp))
  | int j=>let⟨e,rfl⟩:=d;show PySem.EqMixed.ne_str_int (Zo I q (by simp))
  | str j=>let⟨e,rfl⟩:=d;show ne_str (Zo I q (congrArg not Zk0))
  | _=>show absurd (show false=true from f) Bf9
 | byt i=>
  let⟨t,rfl⟩:=g
  cases y with
  | byt j=>let⟨e,rfl⟩:=d;show PySem.W.ne_bytes (Zo I q (congrArg not Zq9))
  | _=>show absurd (show false=true from f) Bf9
 | _=>cases y<;>show absurd (show false=true from f) Bf9
def Yz5:OpR X (compareOp .Lt) (rI0 fun i j=> .bl (decide (i<j))):=opB0 fun _ _ _ _ _ _ _ q=>lt_int q
def Yz7:OpR X (compareOp .Gt) (rI0 fun i j=> .bl (decide (j<i))):=opB0 fun _ _ _ _ _ _ _ q=>gt_int q
def Yy3:OpR X (compareOp .GtE) (rI0 fun i j=> .bl (decide (j<=i))):=opB0 fun _ _ _ _ _ _ _ q=>ge_int q
def Zg4:OpR X (compareOp .In) (fun x y H Q=>∃i j,x= .str i/\y= .str j/\Q (.bl (!(Lm j i 0 j.length 1).isEmpty)) H):=by
 intro d s g H x y v u Q I f e h
 let⟨i,j,rfl,rfl,q⟩:=h
 let⟨t,rfl⟩:=f
 let⟨k,rfl⟩:=e
 show in_str (Zo I q rfl)
def Q8:OpR X (compareOp .Is) (fun x y H Q=>y= .non/\Q (.bl (decide (x= .non))) H):=by
 intro e s g H x y v u Q I d f h
 let⟨rfl,q⟩:=h
 cases f
 refine is_none_gen (Zo I q ?_)
 cases x<;>first
  |(cases d;rfl)
  |(let⟨t,rfl⟩:=d;rfl)
def F0:OpR X (compareOp .NotIn) (fun x y H Q=>∃i j,x= .str i/\y= .str j/\Q (.bl (!(!(Lm j i 0 j.length 1).isEmpty))) H):=by
 intro d s g H x y v u Q I f e h
 let⟨i,j,rfl,rfl,q⟩:=h
 let⟨t,rfl⟩:=f
 let⟨k,rfl⟩:=e
 show notIn_str (Zo I q rfl)
def Ya4{op:CmpOp}{r:R2}(j:OpR X (compareOp op) r)(m:PE X a ta)(l:PE X b tb)(k:behindInMarks op b=false):PE X (.Compare a [op] [b] pos) (tOp r ta tb):=by
 intro d s e H Q I h
 show wpAny_Compare1 (binT m l I h fun v u f x y o n i g q=>j d f e o x y v u Q n i g q) k
def Ys0(t:TE):TT:=fun d H Q=>t d H fun x e=>∃k,x= .bl k/\Q k e
def Yg0{op:CmpOp}{r:R2}(q:OpR X (compareOp op) r)(A:PE X a ta)(w:PE X b tb)(t:behindInMarks op b=false):PT X (.Compare a [op] [b] pos) (Ys0 (tOp r ta tb)):=by
 intro d s f H Q I h
 refine wpAny_isTrue_Compare1 (thn (A d s f H _ I h) fun v i ⟨x,G,D,m,p⟩=>thn (w d i f G _ D p) fun u g ⟨y,F,C,l,o⟩=>
  thn (q d g f F x y v u _ C m l o) fun c J ⟨z,E,B,j,k,e,n⟩=>?_) t
 subst e
 cases j
 show wpAny_truthy_bool ⟨E,B,n⟩
def TruV(K:Ab)(x:V)(H:Hp)(k:Bool):Prop:=
 match x with
 | .non=>k=false
 | .bl b=>k=b
 | .int i=>k=(i !=0)
 | .str y=>y.length<=sizeLine/\k=((y.length:Int) !=0)
 | .byt y=>y.size<=sizeLine/\k=((y.size:Int) !=0)
 | .ref p=>(∃d,SqL K H p d/\k= !d.isEmpty)\/(∃d,SqT K H p d/\k= !d.isEmpty)\/∃e,H p=some (.dK e)/\k= !e.isEmpty
 | _=>False
def Za7{d:Type}{kvs:List (d×V)}{vs:List (d×Ua)}(r:KV kvs vs):(!vs.isEmpty)= !kvs.isEmpty:=by
 cases r<;>rfl
def Pq{xs:LV}{its:LW}(r:Vals xs its):(!its.toArray.isEmpty)= !xs.isEmpty:=by
 cases r<;>simp
def Qr:(sizeLine:Nat)<2 ^ 63:=by rw[Kz];decide
def Bw:TruR X (fun x H Q=>∃k,TruV X.K x H k/\Q k H):=by
 intro pins s σ H x v Q I rx h
 let⟨k,e,q⟩:=h
 have hl:=Qr
 have hs:sizeLine=16777216:=Kz
 cases x with
 | non=>
  cases rx
  have e':k=false:=e
  subst e'
  show truthy_none ⟨H,I,q⟩
 | bl b=>
  cases rx
  have e':k=b:=e
  subst e'
  show wpAny_truthy_bool ⟨H,I,q⟩
 | int i=>
  let⟨t,rfl⟩:=rx
  have e':k=(i !=0):=e
  subst e'
  show PySem.P.truthy_int ⟨H,I,q⟩
 | str y=>
  let⟨t,rfl⟩:=rx
  obtain⟨hy,e'⟩:y.length<=sizeLine/\k=((y.length:Int) !=0):=e
  subst e'
  show PySem.P.truthy_str 'o' ⟨H,I.tok _,q⟩
 | byt y=>
  let⟨t,rfl⟩:=rx
  obtain⟨hy,e'⟩:y.size<=sizeLine/\k=((y.size:Int) !=0):=e
  subst e'
  show PySem.W.truthy_bytes 'o' ⟨H,I.tok _,q⟩
 | ref p=>
  cases rx
  have e':(∃xs,SqL X.K H p xs/\k= !xs.isEmpty)\/(∃xs,SqT X.K H p xs/\k= !xs.isEmpty)\/∃kvs,H p=some (.dK kvs)/\k= !kvs.isEmpty:=e
  rcases e' with⟨xs,hx,e'⟩ | ⟨xs,hx,e'⟩ | ⟨kvs,hx,e'⟩
  .subst e'
   let⟨its,r,pl,hz⟩:=I.list hx
   have hlen:=r.length
   show wpAny_truthy_list pl.isList (by simp only[Al];lia) ⟨H,I.tok _,by rw[Pq r];show q⟩
  .subst e'
   let⟨its,r,pl,hz⟩:=I.tuple hx
   have hlen:=r.length
   show truthy_tuple pl (by simp only[Al];lia) ⟨H,I.tok _,by rw[Pq r];show q⟩
  .subst e'
   obtain⟨hz,hS,vs,r,m⟩:kvs.length<=sizeLine/\(p==sysModules)=false/\∃vs,KV kvs vs/\s.heap.DictOf (Zp X.prog X.w) p vs:=I.hok p _ hx
   have hlen:kvs.length=vs.length:=Paired.length r
   show wpAny_truthy_dict hS m 'o' ⟨H,I.tok _,by rw[Za7 r];show q⟩
 | _=>show(show False from e).elim
def Y27(m:PE X a ta)(l:∀d,isTrue a X.env d=(do let v <-d;standAt a.pos;holding [v] (truthy v))):
  PT X a (fun f H Q=>ta f H fun x H'=>∃k,TruV X.K x H' k/\Q k H'):=by
 intro e s f H Q I h
 show isTrue_plain (thn (m e s f H _ I h) fun v g zz22=>by let⟨x,o,n,i,j⟩:=zz22;show Bw e g f o x v Q n i j) (l _)
def Za9:OpR X (binaryOp .Add) (fun x y H Q=>∃i j,x= .str i/\y= .str j/\i.length+j.length<=sizeLine/\Q (.str (i++j)) H):=by
 intro d s l H x y v u Q I g f h
 let⟨i,j,rfl,rfl,k,q⟩:=h
 let⟨t,rfl⟩:=g
 let⟨e,rfl⟩:=f
 show add_str (fun e m=>⟨.str (i++j),H,I.tok _,⟨_,rfl⟩,q⟩) k
def J3{x:V}{us:LW}(r:Vals [x] us):∃u,us=[u]/\RelV x u:=by
 cases r with
 | cons e d=>cases d;show⟨_,rfl,e⟩
def Pl{x y:V}{us:LW}(r:Vals [x,y] us):∃u d,us=[u,d]/\RelV x u/\RelV y d:=by
 cases r with
 | cons h g=>
  cases g with
  | cons f e=>cases e;show⟨_,_,rfl,h,f⟩
def Ze9(f:X.calm=true):V2 X (.builtin "max") (fun xs H Q=>∃i j,xs=[.int i,.int j]/\Q (.int (if j >i then j else i)) H):=by
 intro e s g H xs m Q I r h
 let⟨i,j,rfl,q⟩:=h
 let⟨u,l,rfl,⟨t,rfl⟩,⟨o,rfl⟩⟩:=Pl r
 refine max_two_ints (I.ok.hd f) fun p n k=>⟨_,H,I.kept k,?_,q⟩
 by_cases d:j >i
 .rw[nh d,nh d];show⟨_,rfl⟩
 .rw[ng d,ng d];show⟨_,rfl⟩
def Zk8(f:X.calm=true):V2 X (.builtin "min") (fun xs H Q=>∃i j,xs=[.int i,.int j]/\Q (.int (if j<i then j else i)) H):=by
 intro e s g H xs m Q I r h
 let⟨i,j,rfl,q⟩:=h
 let⟨u,l,rfl,⟨t,rfl⟩,⟨o,rfl⟩⟩:=Pl r
 refine min_two_ints (I.ok.hd f) fun p n k=>⟨_,H,I.kept k,?_,q⟩
 by_cases d:j<i
 .rw[nh d,nh d];show⟨_,rfl⟩
 .rw[ng d,ng d];show⟨_,rfl⟩
end
structure ObjM(h:Uf)(x dx C:Uc)(mA:Str->Option Ua):Prop where
 obj:h.get? x=some (PySem.W.instObj C dx)
 ns:h.Ns1 dx mA
 ne:dx≠x
set_option tactic.hygienic true in
def Gc{h:Uf}{f:Uc}{c:Str->Option Ua}(n:h.Ns1 f c):∃od,h.get? f=some od/\∀name,PySem.W.lookIn name od=some (c name):=by
 let⟨o,d,p,i,l,k,_,j⟩:=n
 refine⟨o,i,fun name=>?_⟩
 have e:=j name
 unfold nsFind findBy at e
 rw[<-Array.find?_toList] at e
 unfold PySem.W.lookIn
 rw[l]
 dsimp only
 split
 .rename_i y q
  rw[q] at e
  show congrArg some e
 .rename_i q
  rw[q] at e
  have a:d.toList.any (·.refKey)=false:=by
   rw[List.any_eq_false]
   intro y g
   let⟨z,t,b⟩:=k y (Array.mem_toList_iff.mp g)
   simp[DictEntry.refKey,b]
  have m:¬d.toList.any (·.refKey)=true:=by rw[a];show Bf9
  rw[ng m]
  show congrArg some e
def ObjM.look{h:Uf}{x b C:Uc}{a:Str->Option Ua}(I:ObjM h x b C a):∃od,PySem.W.InstAt h x (PySem.W.instObj C b) C (some od)/\∀name,PySem.W.lookIn name od=some (a name):=
 let ⟨od,c,d⟩:=Gc I.ns
 ⟨od,⟨I.obj,rfl,rfl,c⟩,d⟩
def RelO.some_of{v:V}{o:Option Ua}(r:RelO (some v) o):∃u,o=some u/\RelV v u:=by
 cases o with
 | none=>show(show False from r).elim
 | some u=>show⟨u,rfl,r⟩
def RelO.none_of{o:Option Ua}(r:RelO none o):o=none:=by
 cases o with
 | none=>rfl
 | some u=>show(show False from r).elim
section
variable{P:Ud}{w:Ue}{H H':Hp}{h h':Uf}{a C dx:Uc}{fs fs':List (Str×V)}
def Y89(c:HOk P w H h)(e:H a=some (.ins C dx fs)):∃b,ObjM h a dx C b/\(∀f,RelO (fs.lookup f) (b f))/\PySem.Within b (fs.map (·.1))/\fs.length<=1000/\H dx=some (.own a):=by
 let⟨d,z,i,g,b,n,r,q⟩:=(show Yc P w H h a (.ins C dx fs) from c a _ e)
 show⟨b,⟨g,n,i⟩,r,q,z,d⟩
end
structure Cls(K:Ab)(C:Uc):Prop where
 pg:PySem.W.plainGet K C Str.empty=true
 hd:PySem.W.hasDictIn K C=true
 po:PySem.W.plainOver K C=true
 sa:Ho K (.ref C) "__setattr__"=some (some (.builtin "object.__setattr__"))
def Cls.get{K:Ab}{C:Uc}(c:Cls K C)(f:Str):PySem.W.plainGet K C f=true:=c.pg
structure Con(K:Ab)(C:Uc)(f:Str)(v:V)(u:Ua):Prop where
 at_:Ho K (.ref C) f=some (some u)
 rel:RelV v u
 get:PySem.W.specialIn K u "__get__"=some none
 cp:PySem.W.copiedNames.contains f=false
structure Meth(K:Ab)(C:Uc)(m:Str)(f:Uc):Prop where
 at_:Ho K (.ref C) m=some (↑f)
 fn:PySem.W.isFn K (.ref f)=true
 kp:Dm K (.ref f)=true
section
variable{X:Cx}{pins:PLO}{σ:St}{H:Hp}{s:Ub}{A:Around}{E:VSP}{Q:VSP}{c:Ua}{b:Bool}
inductive TyOf (K:Ab) (H:Hp):V->Ua->Prop where
 | non:TyOf K H .non (.type "NoneType")
 | bl (x:Bool):TyOf K H (.bl x) (.type "bool")
 | int (i:Int):TyOf K H (.int i) (.type "int")
 | str (x:Str):TyOf K H (.str x) (.type "str")
 | flt (x:UInt64):TyOf K H (.flt x) (.type "float")
 | lst {a:Uc} {xs:LV} (e:H a=some (.lst xs)):TyOf K H (.ref a) (.type "list")
 | frz {a:Uc} {o:Obj} {xs:LV} (e:H a=some (.frz o (.lst xs))):TyOf K H (.ref a) (.type "list")
 | tup {a:Uc} {xs:LV} (e:H a=some (.tup xs)):TyOf K H (.ref a) (.type "tuple")
 | dK {a:Uc} {kvs:List (Key×V)} (e:H a=some (.dK kvs)):TyOf K H (.ref a) (.type "dict")
 | dT {a:Uc} {kvs:List (List Key×V)} (e:H a=some (.dT kvs)):TyOf K H (.ref a) (.type "dict")
 | ins {a C dx:Uc} {fs:List (Str×V)} (e:H a=some (.ins C dx fs)) (cl:Cls K C) (ha:Ho K (.ref C) "__class__"=some (some (.builtin "object.__class__")))
   (hn:PySem.W.specialIn K (.builtin "object.__class__") "__get__"=some (some (.builtin "getset_descriptor.__get__"))) (htk:PySem.W.takesIn K (.builtin "object.__class__")=some true)
   (hm:PySem.W.mroIn K C (.type "object")=some true):TyOf K H (.ref a) (.ref C)
def Zl5{x:V}{u t:Ua}(I:Inv X pins σ H s)(d:RelV x u)(v:TyOf X.K H x t)(e:Kd X.K t c=some b)(h:∀tk,Q (.bool b) {s with toks:=tk}):
  wpAny (model X.prog X.w) A (call (.builtin "isinstance") [u,c]) Q E s:=by
 cases v with
 | non=>cases (show u=Value.none from d);show Hk PySem.W.kitx_none I.kIn Hu e (fun z=>nomatch z) h
 | bl y=>cases (show u=Value.bool y from d);show Hk PySem.W.kitx_bool I.kIn Hu e (fun z=>nomatch z) h
 | int i=>let⟨t,q⟩:=(show ∃t,u=Value.int i t from d);cases q;show Hk PySem.W.kitx_int I.kIn Hu e (fun z=>nomatch z) h
 | str y=>let⟨t,q⟩:=(show ∃t,u=Value.str y t from d);cases q;show Hk PySem.W.kitx_str I.kIn Hu e (fun z=>nomatch z) h
 | flt y=>let⟨t,q⟩:=(show ∃t,u=Value.float y t from d);cases q;show Hk PySem.W.kitx_float I.kIn Hu e (fun z=>nomatch z) h
 | @lst a k f=>
  cases (show u=Value.ref a from d)
  let⟨_,_,n,_,g⟩:=(show Yc X.prog X.w H s.heap a (.lst k) from I.hok a _ f)
  show Hk PySem.W.kitx_list I.kIn ⟨_,g,rfl⟩ e (fun z=>nomatch z) h
 | @frz a B k f=>
  cases (show u=Value.ref a from d)
  let⟨_,_,_,n,_,g⟩:=(show Yc X.prog X.w H s.heap a (.frz B (.lst k)) from I.hok a _ f)
  show Hk PySem.W.kitx_list I.kIn ⟨_,g,rfl⟩ e (fun z=>nomatch z) h
 | @tup a k f=>
  cases (show u=Value.ref a from d)
  let⟨_,_,_,p⟩:=(show Yc X.prog X.w H s.heap a (.tup k) from I.hok a _ f)
  let⟨o,g,l,_⟩:=p
  show Hk PySem.W.kitx_tuple I.kIn ⟨o,g,l⟩ e (fun z=>nomatch z) h
 | @dK a j f=>
  cases (show u=Value.ref a from d)
  let⟨_,_,N,_,p⟩:=(show Yc X.prog X.w H s.heap a (.dK j) from I.hok a _ f)
  let⟨o,L,M,g,l,_⟩:=p
  show Hk PySem.W.kitx_dict I.kIn ⟨o,g,l.1⟩ e (fun z=>nomatch z) h
 | @dT a j f=>
  cases (show u=Value.ref a from d)
  let⟨_,_,k,_,o,L,M,g,l,_⟩:=(show Yc X.prog X.w H s.heap a (.dT j) from I.hok a _ f)
  show Hk PySem.W.kitx_dict I.kIn ⟨o,g,l.1⟩ e (fun z=>nomatch z) h
 | @ins a C T S f r G D m F=>
  cases (show u=Value.ref a from d)
  let⟨R,O,_⟩:=Y89 I.hok f
  let⟨P,J,_⟩:=O.look
  show Hk (PySem.W.kitx_own (r.get _) r.hd G D m F) I.kIn J e (fun z=>nomatch z) h
end
structure Room(k:Nat)(A:Around):Prop where
 hd:A.handled=none
 dp:A.depth+3 * k+5<recursionLimit
 un:A.units+16 * k+200<cLine
def Room.mono{j k:Nat}{A:Around}(r:Room k A)(h:j<=k):Room j A:=⟨r.hd,by have:=r.dp;lia,by have:=r.un;lia⟩
def Room.deeper{k:Nat}{A:Around}(r:Room (k+1) A)(env:Env):Room k (A.deeper env):=
 ⟨r.hd,by have:=r.dp;change A.depth+1+3 * k+5<_;lia,by have:=r.un;change A.units+3+16 * k+200<_;lia⟩
def Z85{A:Around}{C:Uc}{us:LW}{a:List (Str×Ua)}:(A.under (.builtin "type.__call__" ⟨.ref C::us,a⟩)).depth=A.depth+1:=by
 first | rfl | simp[Around.under,Code.weight,Code.isCreation,Code.isGuard,Code.isCaller,Code.frames,Code.isFrame,guardIds]
def Z90{A:Around}{C:Uc}{us:LW}{a:List (Str×Ua)}:(A.under (.builtin "type.__call__" ⟨.ref C::us,a⟩)).units=A.units+1:=by
 first | rfl | simp[Around.under,Code.cUnits,Code.frames,Code.isFrame]
def Room.make{k:Nat}{A:Around}(r:Room (k+1) A)(C:Uc)(us:LW)(a:List (Str×Ua)):Room k (A.under (.builtin "type.__call__" ⟨.ref C::us,a⟩)):=
 ⟨r.hd,by have:=r.dp;rw[Z85];lia,by have:=r.un;rw[Z90];lia⟩
def Room.depth{k:Nat}{A:Around}(r:Room k A):A.depth<recursionLimit:=by have:=r.dp;lia
def Room.units{k:Nat}{A:Around}(r:Room k A):A.units+64<cLine:=by have:=r.un;lia
def tNil:TA:=fun _ H Q=>Q [] H
def Yw1(d:TE)(c:TA):TA:=fun a H Q=>d a H fun x f=>c a f fun b e=>Q (x::b) e
section
variable{X:Cx}{e:Expr}{es:List Expr}{te:TE}{t:TA}{pos:Pos}
def Gz:PA X [] tNil:=fun _ _ _ _ H Q I h=>Calls.spliced_nil ⟨[],H,I,.nil,h⟩
def Qn(m:PE X e te)(l:PA X es t)(k:starEach (e::es) X.env=(false,eval e X.env)::starEach es X.env:=by rfl):PA X (e::es) (Yw1 te t):=by
 intro pos a s b H Q I h
 rw[k]
 change wpAny _ _ (spliced ((false,eval e X.env)::backTo pos (starEach es X.env))) _ _ s
 refine Calls.spliced_cons (thn (m a s b H _ I h) fun u d zz23=>?_)
 let⟨x,q,o,g,j⟩:=zz23
 show thn (l pos a d b q _ o j) fun r v zz24=>by let⟨c,p,n,f,i⟩:=zz24;show⟨x::c,p,n,.cons g f,i⟩
def tTup(t:TA):TE:=fun c H Q=>t c H fun a b=>a.length<=sizeLine/\∀p,b p=none->Q (.ref p) (upd b p (.tup a))
def tLst(t:TA):TE:=fun c H Q=>t c H fun a b=>a.length<=sizeLine/\∀p,b p=none->Q (.ref p) (upd b p (.lst a))
def Yn6{x1}(h:PA X es t):PE X (.Tuple es x1 pos) (tTup t):=by
 intro a s g H Q I k
 refine wpAny_Tuple_spliced (thn (h pos a s g H _ I k) fun j c ⟨i,f,d,r,z,q⟩=>⟨by rw[<-r.length];show z,?_⟩)
 have l:f c⁻¹=none:=d.hok.fresh (nc _)
 refine⟨.ref c⁻¹,upd f c⁻¹ (.tup i),d.laid (t':=c.toks) (fun b u e=>Ah _ e) (nc _) ?_,rfl,q _ l⟩
 show⟨z,j,r,⟨_,Aq _ rfl,rfl,_,rfl⟩⟩
def Yu5(h:PA X es t):PE X (.List es pos) (tLst t):=by
 intro a s g H Q I k
 refine wpAny_List_spliced (thn (h pos a s g H _ I k) fun j c ⟨i,f,d,r,z,q⟩=>⟨by rw[<-r.length];show z,?_⟩)
 have l:f c⁻¹=none:=d.hok.fresh (nc _)
 refine⟨.ref c⁻¹,upd f c⁻¹ (.lst i),d.laid (t':=c.toks) (fun b u e=>Ah _ e) (nc _) ?_,rfl,q _ l⟩
 show⟨z,j,0,r,Aq _ rfl⟩
end
abbrev Sp:=LV->Hp->VK->XK->Prop
abbrev CXT:=List Env->Hp->Ub->XK->Ua->Ub->Prop
structure Env0(P:Ud)(w:Ue)(K:Ab)(mg:Str->Option Ua)(base:Uf)(A:Around)(outer:List Env)(s:Ub)(H:Hp):Prop where
 frames:A.frames=some outer
 mod:Mod K mg base
 bs:∀b o,base.get? b=some o->s.heap.get? b=some o/\H b=none
 bsz:base.objs.size<=s⁻¹
 funs:s.heap.FunFrames base outer
 frf:∀b∈frs outer,H b=none
 hok:HOk P w H s.heap
 bare:AllBare s.gens
def CE(outer:List Env)(P:Ud)(w:Ue)(H:Hp)(s:Ub)(Q:VK)(u:Ua)(s':Ub):Prop:=
 ∃v a,s'.os=s.os/\AllBare s'.gens/\Un (frs outer) [] H a s.heap s'.heap/\HOk P w a s'.heap/\RelV v u/\Q v a
def CR(CX:CXT)(outer:List Env)(P:Ud)(w:Ue)(H:Hp)(s:Ub)(Q:VK)(E:XK)(r:Result)(s':Ub):Prop:=
 match r with
 | .ok (.ret u)=>CE outer P w H s Q u s'
 | .ok _=>False
 | .error e=>CX outer H s E e s'
structure FnOk(P:Ud)(w:Ue)(K:Ab)(mg:Str->Option Ua)(base:Uf)(CX:CXT)(k:Nat)(f:Uc)(fd:FuncData)(ps:LS)(sp:Sp):Prop where
 len:∀vs H Q E,sp vs H Q E->vs.length=ps.length
 run:∀(A:Around) (outer:List Env) (s:Ub) (H:Hp) (args:Args) (us:LW) (vs:LV) (Q:VK) (E:XK),Room k A->Env0 P w K mg base A outer s H->BindsTo s fd args (ps.zip us)->Vals vs us->sp vs H Q E->
  codeAny (model P w) A (.call (.ref f) args) (CR CX outer P w H s Q E) s
def Env0.make{P:Ud}{w:Ue}{K:Ab}{mg:Str->Option Ua}{base:Uf}{A:Around}{outer:List Env}{s:Ub}{H:Hp}(e:Env0 P w K mg base A outer s H)(C:Uc)(us:LW)(a:List (Str×Ua)):
  Env0 P w K mg base (A.under (.builtin "type.__call__" ⟨.ref C::us,a⟩)) outer s H:=⟨by first | show e.frames | (simpa[Around.under,Code.envs,Code.isFrame,pushEnvs] using e.frames),e.mod,e.bs,e.bsz,e.funs,e.frf,e.hok,e.bare⟩
section
variable{X:Cx}{pins:PLO}{σ:St}{H:Hp}{s s':Ub}
def Inv.env0(I:Inv X pins σ H s):Env0 X.prog X.w X.K X.mg X.base X.A X.stack s H:=
 ⟨I.ok.frames,I.ok.mod,I.bs,nj I.ok.bsz I.sz,I.stack,I.stkFree,I.hok,I.bare⟩
def Inv.after{Q:VK}{u:Ua}(I:Inv X pins σ H s)(h:CE X.stack X.prog X.w H s Q u s'):EP X pins σ Q u s':=by
 let⟨v,k,i,a,f,e,r,q⟩:=h
 let⟨j,g,d,t,c⟩:=s'
 obtain rfl:c=s.os:=i
 show⟨v,k,I.call (h':=j) (g':=g) (d':=d) (t':=t) (ch:=[]) f e a (fun b z=>absurd z (by simp)),r,q⟩
end
def Ys8(sp:Sp)(dvs:LV)(E:XK)(t:TA):TE:=fun a H Q=>t a H fun b c=>sp (b++dvs) c Q E
def Yg(K:Ab)(b:FuncData)(ps:LS)(ds:LW):Prop:=
 ∀(s:Ub) (a:LW),K.In s.heap->(a++ds).length=ps.length->BindsTo s b ⟨a,[]⟩ (ps.zip (a++ds))
def Yg.all{K:Ab}{b:FuncData}{ps:LS}(h:∀us:LW,us.length=ps.length->bindArgs b ⟨us,[]⟩=pure (ps.zip us)):Yg K b ps []:=fun s us _ a=>by
 rw[Du] at a ⊢
 show .of_eq (h us a)
def Gi(CX:CXT)(X:Cx)(E:XK):Prop:=∀(a:PLO) (c:St) (H:Hp) (s:Ub) (e:Ua) (b:Ub),Inv X a c H s->CX X.stack H s E e b->X.xe e b
section
variable{X:Cx}{CX:CXT}{k:Nat}{f C:Uc}{fd:FuncData}{ps:LS}{sp:Sp}{dvs:LV}{ds:LW}{E:XK}{x m:Str}{p pos apos:Pos}{e o:Expr}{es:List Expr}{ta:TE}{t:TA}
def Y63{pins:PLO}{b:St}{H:Hp}{s:Ub}{Q:VK}{us:LW}{vs:LV}(F:FnOk X.prog X.w X.K X.mg X.base CX k f fd ps sp)(i:Room k X.A)(n:Yg X.K fd ps ds)(l:Vals dvs ds)(g:Gi CX X E)
  (I:Inv X pins b H s) (r:Vals vs us) (h:sp (vs++dvs) H Q E):⇑X (call (.ref f) us) (EP X pins b Q) X.xe s:=by
 have c:Vals (vs++dvs) (us++ds):=r.append l
 have j:(us++ds).length=ps.length:=by rw[<-c.length];show F.len _ _ _ _ h
 refine Mc (Ki (F.run X.A X.stack s H ⟨us,[]⟩ (us++ds) (vs++dvs) Q E i I.env0 (n s us I.kIn j) c h) fun r d a=>?_)
 cases r with
 | error e=>show g pins b H s e d I a
 | ok q=>
  cases q with
  | ret u=>show I.after a
  | next=>show Bk a
  | brk=>show Bk a
  | cont=>show Bk a
def Yg5(F:FnOk X.prog X.w X.K X.mg X.base CX k f fd ps sp)(j:Room k X.A)(u:Gl X x)(l:X.mg x=↑f)(n:Dm X.K (.ref f)=true)(z:Yg X.K fd ps ds)(y:Vals dvs ds)(i:Gi CX X E)
  (B:PA X (e::es) t) (c:(x==("__debug__":Str))=false:=by decide) (v:starEach (e::es) X.env=(false,eval e X.env)::starEach es X.env:=by rfl) (b:(backTo pos (starEach es X.env)).any (·.1)=false:=by rfl):
  PE X (.Call (.Name x p) (e::es) [] pos) (Ys8 sp dvs E t):=by
 intro a s g H Q I h
 refine Hr (W2 I u l ?_ c)
 refine PySem.W.callWith_K (h₀:=X.base) I.ok.mod.kin n (thn (B pos a s g H _ I h) fun G J ⟨D,L,d,r,q⟩=>⟨d.kIn,?_⟩) v b
 show Y63 F j z y i d r q
def Y25(F:FnOk X.prog X.w X.K X.mg X.base CX k f fd ps sp)(d:Room k X.A)(j:Gl X x)(g:X.mg x=↑f)(i:Dm X.K (.ref f)=true)(n:Yg X.K fd ps ds)(l:Vals dvs ds)(c:Gi CX X E)
  (a:(x==("__debug__":Str))=false:=by decide):PE X (.Call (.Name x p) [] [] pos) (Ys8 sp dvs E tNil):=by
 intro b s q H Q I h
 refine Hr (W2 I j g ?_ a)
 show PySem.W.callWith_K0 I.kIn i (Y63 (us:=[]) F d n l c I .nil h)
structure Mk(K:Ab)(C f:Uc):Prop where
 makes:PySem.W.makesIn K C=true
 init:Ho K (.ref C) "__init__"=some (↑f)
 fn:PySem.W.isFn K (.ref f)=true
 kp:Dm K (.ref C)=true
end
section
variable{X:Cx}{CX:CXT}{k:Nat}{f C:Uc}{fd:FuncData}{ps ks:LS}{sp:Sp}{E:XK}{x m:Str}{p pos apos kpos:Pos}{e o:Expr}{es:List Expr}{kws:List Keyword}{te ta:TE}{t tk:TA}{nm:Option Str}
structure KBinds(K:Ab)(fd:FuncData)(ps ks:LS)(g:LW->LW->LW)(gV:LV->LV->LV):Prop where
 to:∀(s:Ub) (us ws:LW),K.In s.heap->(g us ws).length=ps.length->BindsTo s fd ⟨us,ks.zip ws⟩ (ps.zip (g us ws))
 rel:∀{vs:LV} {us:LW} {zs:LV} {ws:LW},Vals vs us->Vals zs ws->Vals (gV vs zs) (g us ws)
variable{g:LW->LW->LW}{gV:LV->LV->LV}
end
structure FnScope(N P:LS)(sc:Scope):Prop where
 kind:sc.kind= .function
 co:sc.isCoroutine=false
 gen:sc.isGenerator=false
 nd:N.Nodup
 pre:N.take P.length=P
 par:∀x∈P,sc.names.lookup x=some .local\/sc.names.lookup x=some .cell
 nofree:∀y∈sc.names,y.2≠ .free
def C0{b:Str->Option NameKind}{x:Str}:∀{a:List (Str×Ua)} {m:Str->Option Ua},(∀v,(x,v)∉a)->bindL b a m x=m x
 | [],_,_=>rfl
 |(n,v)::r,m,h=>by
  unfold bindL
  rw[C0 fun w c=>h w (Av _ c)]
  split
  .have:x≠n:=by rintro rfl;show h v Bs
   simp[this]
  .rfl
def Gf{b:Str->Option NameKind}{x:Str}:∀{a:List (Str×Ua)} {m:Str->Option Ua},(∀v,(x,v)∉a)->bindC b a m x=m x
 | [],_,_=>rfl
 |(n,v)::r,m,h=>by
  unfold bindC
  rw[Gf fun w c=>h w (Av _ c)]
  split
  .rfl
  .have:x≠n:=by rintro rfl;show h v Bs
   simp[this]
def El{a:Str->Option NameKind}{x:Str}{v:Ua}:∀{P:LS} {vs:LW} {i:Nat} {m:Str->Option Ua},P.Nodup->P[i]?=some x->vs[i]?=some v->a x=some .local->
  bindL a (P.zip vs) m x=some v
 | [],_,_,_,_,h,_,_=>by simp at h
 | _::_,[],_,_,_,_,h,_=>by simp at h
 | p::P,w::vs,0,m,d,c,b,e=>by
  simp at c b;subst c;subst b
  change bindL a ((p,w)::P.zip vs) m p=_
  unfold bindL
  rw[C0 fun v f=>(Ko.mp d).1 (List.of_mem_zip f).1,nh e]
  simp
 | p::P,w::vs,i+1,m,d,c,b,e=>by
  change bindL a ((p,w)::P.zip vs) m x=_
  unfold bindL
  show El (i:=i) (Ko.mp d).2 ↥c ↥b e
def Gv{a:Str->Option NameKind}{x:Str}{v:Ua}:∀{P:LS} {vs:LW} {i:Nat} {m:Str->Option Ua},P.Nodup->P[i]?=some x->vs[i]?=some v->a x≠some .local->
  bindC a (P.zip vs) m x=some v
 | [],_,_,_,_,h,_,_=>by simp at h
 | _::_,[],_,_,_,_,h,_=>by simp at h
 | p::P,w::vs,0,m,d,c,b,e=>by
  simp at c b;subst c;subst b
  change bindC a ((p,w)::P.zip vs) m p=_
  unfold bindC
  rw[Gf fun v f=>(Ko.mp d).1 (List.of_mem_zip f).1,ng e]
  simp
 | p::P,w::vs,i+1,m,d,c,b,e=>by
  change bindC a ((p,w)::P.zip vs) m x=_
  unfold bindC
  show Gv (i:=i) (Ko.mp d).2 ↥c ↥b e
def start(N:LS)(vs:LV):St:=vs.map some++Ds (N.length - vs.length) none
def cxOf(CX:CXT)(P:Ud)(w:Ue)(K:Ab)(mg:Str->Option Ua)(base:Uf)(N:LS)(a:Str)(scope:Scope)(f:Uc)(c:Ua)(A:Around)(outer:List Env)(s:Ub)(H:Hp)(E:XK):Cx where
 prog:=P
 w:=w
 K:=K
 mg:=mg
 base:=base
 A:=A.deeper (envOfC a scope s⁻¹ f c)
 N:=N
 s₀:=s
 H₀:=H
 env:=envOfC a scope s⁻¹ f c
 outer:=outer
 stack:=envOfC a scope s⁻¹ f c::outer
 ex:=[]
 calm:=true
 fn:=fun _=>true
 pn:=[]
 xe:=fun e d=>wpAny (model P w) (A.deeper (envOfC a scope s⁻¹ f c)) (leaving (envOfC a scope s⁻¹ f c) e) (fun _ b=>CX outer H s E e b) (fun g b=>CX outer H s E g b) d
def Z15{a:Scope}{n:Nat}{x:Str}(h:a.names.lookup x=some .cell):∃c,(cellsFrom n a.names []).lookup x=some c:=by
 have q:=PySem.W.cellsFrom_some a.names n [] (.inl h)
 show Hw.mp q
def Zo2{CX:CXT}{P:Ud}{w:Ue}{K:Ab}{mg:Str->Option Ua}{base:Uf}{N ps:LS}{d:Str}{scope:Scope}{f:Uc}{D:Ua}{A:Around}{outer:List Env}{s F:Ub}{H:Hp}{E:XK}{us:LW}{vs:LV}
  (S:FnScope N ps scope) (M:A.handled=none) (j:Env0 P w K mg base A outer s H) (R:vs.length=ps.length) (r:Vals vs us)
  (x:InCallC s s⁻¹ (bindL (envOfC d scope s⁻¹ f D).kindOf (ps.zip us) fun _=>none) (cellsFrom (s⁻¹+1) scope.names []) (bindC (envOfC d scope s⁻¹ f D).kindOf (ps.zip us) fun _=>none) F):
  Inv (cxOf CX P w K mg base N d scope f D A outer s H E) [] (start N vs) H F:=by
 have L:ps.length<=N.length:=by have:=congrArg Mh S.pre;rw[Ke] at this;lia
 let⟨C,Q,rfl,I⟩:=x.done
 have l:∀b:Uc,b∉(cxOf CX P w K mg base N d scope f D A outer s H E).ex:=fun b z=>absurd (show b∈([]:List Uc) from z) (by simp)
 refine⟨⟨j.mod,S.kind,rfl,rfl,nc _,fun y z c C g=>?_,fun y m=>?_,fun y c _ h=>?_,fun _=>M,Around.frames_deeper j.frames,.inr ⟨rfl,rfl⟩,fun b z=>absurd z (l b),j.bs,j.bsz,fun b _ _=>l b,fun b z=>absurd z (l b),j.funs,j.frf⟩,
  rfl,j.bare,Un.kept I,⟨_,x.toInCall.ns,fun i y v C g T=>?_⟩,fun y c h=>⟨_,x.cell y c h⟩,j.hok.fresh (nc _),fun y c h=>?_,fun p t=>absurd (show p∈([]:PLO) from t) (by simp),j.hok.kept I,?_⟩
 .exact name_of_addr x.apart (Li C) (Li g)
 .have m:scope.names.lookup y=some .cell\/scope.names.lookup y=some .free:=m
  rcases m with m | m
  .exact Z15 m
  .exact absurd rfl (S.nofree _ (Li m))
 .exact ny (x.above y c (Li h))
 .have B:i<vs.length:=by
   unfold start at g
   by_cases B:i<vs.length
   .exact B
   .rw[Dt ↥B] at g
    rw[List.getElem?_replicate] at g
    split at g<;>cases g
  have O:vs[i]?=some v:=by
   unfold start at g
   rw[Dn ↥B,Ao] at g
   cases e:vs[i]? with
   | none=>rw[e] at g;cases g
   | some a=>rw[e] at g;cases g;rfl
  let⟨u,G,J⟩:=r.get O
  have t:ps[i]?=some y:=by
   rw[<-S.pre,List.getElem?_take_of_lt 'o'];show C
  have o:ps.Nodup:=by rw[<-S.pre];show S.nd.sublist (List.take_sublist _ _)
  refine⟨u,J,?_⟩
  rcases S.par y (Ax t) with k | k
  .exact .inl ⟨k,El o t G k⟩
  .let⟨c,e⟩:=Z15 (n:=s⁻¹+1) k
   refine .inr ⟨.inl k,c,e,?_⟩
   have q:=x.cell y c e
   rw[Gv o t G (by change scope.names.lookup y≠_;rw[k];decide)] at q
   show q
 .exact j.hok.fresh (ny (x.above y c (Li h)))
 .unfold start
  change _=N.length
  rw[Ae,Af,List.length_replicate]
  lia
def Yg9{CX:CXT}{P:Ud}{w:Ue}{K:Ab}{mg:Str->Option Ua}{base:Uf}{k:Nat}{f:Uc}{name a:Str}{d:Arguments}{body:List Stmt}{scope:Scope}{X U C T c Y oc:Ua}{an od:Option Uc}
  {G:Array (Option Ua)} {N ps:LS} {sp:Sp} (lk:K.lookup f=some ⟨oc,od,.func (Hj name a d body scope X U C T an c Y),G⟩) (O:Kf K c a=true) (S:FnScope N ps scope)
  (m:∀vs H Q E,sp vs H Q E->vs.length=ps.length)
  (j:∀(A:Around) (outer:List Env) (s:Ub) (H:Hp) (vs:LV) (Q:VK) (E:XK),Room k (A.deeper (envOfC a scope s⁻¹ f c))->sp vs H Q E->
   ∃t,PSs (cxOf CX P w K mg base N a scope f c A outer s H E) body t/\t {nx:=fun _ h=>Q .non h,rt:=Q} (start N vs) H):
  FnOk P w K mg base CX (k+1) f (Hj name a d body scope X U C T an c Y) ps sp:=by
 refine⟨m,fun A outer s H Z us vs Q E M B hb r p=>?_⟩
 have hl:=m _ _ _ _ p
 have KX:K.In s.heap:=B.mod.kin.keeps fun b o e=>(B.bs b o e).1
 have L:s.heap.NoLimit:=B.mod.nolimit.keeps fun b o e=>(B.bs b o e).1
 have i:∀y∈ps.zip us,scope.names.lookup y.1=some .local\/(scope.names.lookup y.1=some .cell/\((cellsFrom (s⁻¹+1) scope.names []).lookup y.1).isSome=true):=fun zy2 hy=>by
  let⟨n,v⟩:=zy2
  rcases S.par n (List.of_mem_zip hy).1 with q | q
  .exact .inl q
  .exact .inr ⟨q,PySem.W.cellsFrom_some _ _ _ (.inl q)⟩
 refine codeAny_call_function M.depth (KX _ _ lk) rfl S.co S.gen rfl (PySem.W.codeRec_of KX O) (hb _ _ _ _ ?_)
 refine wpAny_newFunctionEnv_cells S.kind i fun z0 he R x=>?_
 subst he
 refine⟨L.keeps x.toInCall.keep,codeAny_func ?_⟩
 let⟨t,ht,hq⟩:=j A outer s H vs Q E (M.deeper _) p
 have I:Inv (cxOf CX P w K mg base N a scope f c A outer s H E) [] (start N vs) H R:=Zo2 S M.hd B hl r x
 refine Dy (ht [] R (start N vs) H _ I hq) (fun fl D l=>?_) fun e D l=>l
 have z:∀{g:St} {h:Hp} {v:V} {u:Ua},Inv (cxOf CX P w K mg base N a scope f c A outer s H E) [] g h D->RelV v u->Q v h->CE outer P w H s Q u D:=
  fun{g h v u} J F q=>⟨v,h,J.os,J.bare,J.base,J.hok,F,q⟩
 cases fl with
 | ret u=>
  let⟨v,g,h,J,F,q⟩:=l
  show z J F q
 | next=>
  let⟨g,h,J,q⟩:=l
  show z (v:=V.non) (u:=Value.none) J rfl q
 | brk=>
  let⟨_,_,_,q⟩:=l
  show Bk q
 | cont=>
  let⟨_,_,_,q⟩:=l
  show Bk q
section
variable{X:Cx}{x:Str}{p pos:Pos}{e:Expr}{es:List Expr}{t:TA}{id T:String}{r:LV->Hp->VK->Prop}
def tCB(r:LV->Hp->VK->Prop)(t:TA):TE:=fun a H Q=>t a H fun b c=>r b c Q
def Y01(u:V2 X (.builtin id) r)(o:Gl X x)(n:X.mg x=none)(l:bootBuiltins x=some (.builtin id))(v:PA X (e::es) t)(m:x≠"__name__":=by decide)(c:(x==("__debug__":Str))=false:=by decide)
  (q:starEach (e::es) X.env=(false,eval e X.env)::starEach es X.env:=by rfl) (b:(backTo pos (starEach es X.env)).any (·.1)=false:=by rfl):PE X (.Call (.Name x p) (e::es) [] pos) (tCB r t):=by
 intro a s d H Q I h
 refine Hr (N9 I o n l ?_ m c)
 show PyProof.Rows.callWith_builtin1 (thn (v pos a s d H _ I h) fun g i zz28=>by let⟨f,y,w,j,k⟩:=zz28;show u a i d y f g Q w j k) q b
def Qi(u:V2 X (.type T) r)(o:Gl X x)(n:X.mg x=none)(l:bootBuiltins x=some (.type T))(v:PA X (e::es) t)(m:x≠"__name__":=by decide)(c:(x==("__debug__":Str))=false:=by decide)
  (q:starEach (e::es) X.env=(false,eval e X.env)::starEach es X.env:=by rfl) (b:(backTo pos (starEach es X.env)).any (·.1)=false:=by rfl):PE X (.Call (.Name x p) (e::es) [] pos) (tCB r t):=by
 intro a s d H Q I h
 refine Hr (N9 I o n l ?_ m c)
 show Kh (thn (v pos a s d H _ I h) fun g i zz29=>by let⟨f,y,w,j,k⟩:=zz29;show u a i d y f g Q w j k) q b
end
end L2
namespace HT
open PySem PyProof.Rows
section
open PySem.SeqAt
open PySem.AutoSeq1 (wpAny_loadPart')
open PySem.MeetsSeq PySem.MeetsSeq2 PySem.MeetsSeq3
end
section
variable{prog:Ud}{w:Ue}{A:Around}{E:VSP}{s:Ub}
def Yk6{t b:Uc}{vs a:LW}(y:IsTup s.heap t vs.toArray)(z:IsTup s.heap b a.toArray)(p:vs≠[])
  (C:a=[]->Q (.ref t) s) (B:a≠[]->Q (.ref s⁻¹) {s with heap:=s.heap.push {cls:= .type "tuple",data:= .seq (vs++a).toArray}})
  (k:vs.length+a.length<=sizeLine):wpAny (model prog w) A (binaryOp .Add (.ref t) (.ref b)) Q E s:=by
 let⟨⟨D,u,v,m⟩,j,r,n,q⟩:=id y
 let⟨⟨x,h,l,d⟩,c,g,o,f⟩:=id z
 simp only at r q g f
 subst r q g f
 have e:vs.toArray++a.toArray=(vs++a).toArray:=by simp
 by_cases i:a=[]
 .exact concat_meets ⟨_,j,rfl⟩ ⟨_,c,rfl⟩ noFill_tuple_add seq_tuple_add PySem.F.slot_tuple_add PySem.F.entry_tuple_add (PySem.F.args_tuple_add_2 _ _)
   (tuple_addW1 t b vs.toArray a.toArray n o u h m d ↥p (by simp[i])) ⟨j,c,C i⟩
 .refine concat_meets ⟨_,j,rfl⟩ ⟨_,c,rfl⟩ noFill_tuple_add seq_tuple_add PySem.F.slot_tuple_add PySem.F.entry_tuple_add (PySem.F.args_tuple_add_2 _ _)
   (tuple_addW2 t b vs.toArray a.toArray n o u h m d ↥p ↥i (by rw[Al,Al];show k)) ⟨j,c,?_⟩
  rw[e]
  show B i
def sIx(n d:Nat):Option Int->Nat
 | none=>d
 | some v=>if v<0 then(v+(n:Int)).toNat else min v.toNat n
def Yt7(n d:Nat)(b:d<=n)(o:Option Int):sIx n d o<=n:=by
 cases o with
 | none=>show b
 | some v=>
  show(if v<0 then(v+(n:Int)).toNat else min v.toNat n)<=n
  by_cases a:v<0
  .rw[nh a];lia
  .rw[ng a];show Nat.min_le_right _ _
def Zp6(v:Int)(n d:Nat):(if v<0 then max (v+(n:Int)) 0 else min v (n:Int))=((sIx n d (some v):Nat):Int):=by
 show(if v<0 then max (v+(n:Int)) 0 else min v (n:Int))=(((if v<0 then(v+(n:Int)).toNat else min v.toNat n):Nat):Int)
 by_cases a:v<0
 .simp only[if_pos a];lia
 .simp only[if_neg a];lia
def Zb9(lo hi:Option Int)(n:Nat):Builtin.Slice.sliceAdjust lo hi 1 (n:Int)=(((sIx n 0 lo:Nat):Int),((sIx n n hi:Nat):Int)):=by
 have h1:¬((1:Int)<0):='o'
 unfold Builtin.Slice.sliceAdjust
 simp only[h1,if_false]
 refine Prod.ext ?_ ?_
 .cases lo with
  | none=>rfl
  | some v=>show Zp6 v n 0
 .cases hi with
  | none=>rfl
  | some v=>show Zp6 v n n
def Za0(i j:Nat):Kx (i:Int) (j:Int) 1=j - i:=by
 unfold Kx
 have a:(1:Int) >0:='o'
 simp only[a,if_true,Int.ediv_one]
 split<;>lia
def Oh{v:Ua}(p:IsPart v o)(h:Q o s):wpAny (model prog w) A (Builtin.Slice.slicePartIndex v) Q E s:=by
 cases p with
 | none=>show slicePart_none h
 | int i t=>show slicePart_int h
def Xz{sl:Uc}{vl vu:Ua}{lo hi:Option Int}{n:Nat}{Q:Int×Int×Nat->Ub->Prop}(hs:s.heap.IsSliceOf sl vl vu .none)(pl:IsPart vl lo)(pu:IsPart vu hi)
  (h:Q (((sIx n 0 lo:Nat):Int),1,sIx n n hi - sIx n 0 lo) s):wpAny (model prog w) A (Builtin.Slice.sliceApplied (.ref sl) (pure (n:Int))) Q E s:=by
 let⟨os,hos,hcs,hds⟩:=id hs
 unfold Builtin.Slice.sliceApplied Builtin.Slice.sliceFields
 refine Aa (Aa (Fd hos hds (x:=vl) rfl (Aa (Fd hos hds (x:=vu) rfl (Aa (Fd hos hds (x:= .none) rfl (Ai ?_)))))))
 refine Aa (slicePart_none ?_)
 change wpAny _ _ (if ((1:Int)==0)=true then _ else _) _ _ s
 rw[ng 'd']
 refine Aa (Oh pl (Aa (Oh pu (Aa (Ai ?_)))))
 change wpAny _ _ (match Builtin.Slice.sliceAdjust lo hi 1 (n:Int) with | (lo,hi)=>pure (lo,(1:Int),Kx lo hi 1)) _ _ s
 rw[Zb9 lo hi n]
 change wpAny _ _ (pure (((sIx n 0 lo:Nat):Int),(1:Int),Kx ((sIx n 0 lo:Nat):Int) ((sIx n n hi:Nat):Int) 1)) _ _ s
 rw[Za0]
 show Ai h
def Zv2(xs:Array Ua)(i k:Nat):((Ik k).filterMap fun(m:Nat)=>xs[((i:Int)+(m:Int) * 1).toNat]?).toArray=((xs.toList.drop i).take k).toArray:=by
 have e:(fun(m:Nat)=>xs[((i:Int)+(m:Int) * 1).toNat]?)=fun m=>xs[i+m]?:=by
  funext m
  have:((i:Int)+(m:Int) * 1).toNat=i+m:='o'
  rw[this]
 rw[e]
 have:=pick_run xs i k
 rw[List.filterMap_map] at this
 have a:((fun x=>xs[x]?) ∘ fun x=>i+x)=fun m=>xs[i+m]?:=rfl
 rw[a] at this
 rw[this]
def Sh{t sl:Uc}{items:Array Ua}{vl vu:Ua}{lo hi:Option Int}{Q:VSP}(ht:IsTup s.heap t items)(hs:s.heap.IsSliceOf sl vl vu .none)(pl:IsPart vl lo)(pu:IsPart vu hi)
  (hw:¬(sIx items.size 0 lo=0/\sIx items.size items.size hi=items.size))
  (h:Q (.ref s⁻¹) {s with heap:=s.heap.push {cls:= .type "tuple",data:= .seq ((items.toList.drop (sIx items.size 0 lo)).take (sIx items.size items.size hi - sIx items.size 0 lo)).toArray}})
  (hsz:items.size<=sizeLine):wpAny (model prog w) A (getItem (.ref t) (.ref sl)) Q E s:=by
 have htake:sizeOk (.seq ((items.toList.drop (sIx items.size 0 lo)).take (sIx items.size items.size hi - sIx items.size 0 lo)).toArray):=by
  show((items.toList.drop (sIx items.size 0 lo)).take (sIx items.size items.size hi - sIx items.size 0 lo)).toArray.size<=sizeLine
  rw[Al,Ke,List.length_drop,Kc]
  lia
 have hj:sIx items.size items.size hi<=items.size:=Yt7 _ _ (nc _) hi
 let⟨os,hos,hcs,hds⟩:=id hs
 have hTs:s.TypeIs (.ref sl) "slice":=⟨os,hos,hcs⟩
 unfold getItem
 try with_reducible refine Hi ?_
 first | refine Aa (Ai ?_) | skip
 refine Aa (wpAny_sequenceKey ht.typeIs 'd' ?_)
 refine Aa (Ie (name:=Str.ofString "__getitem__") ht.typeIs Hh
  (La Hh ht.typeIs entry_tuple_getitem ?_ (args_tuple_getitem _ _)))
 change wpAny _ _ (Builtin.Tuple.tupleItemsOf (.ref t) >>=_) _ _ s
 refine Aa (tupleItemsOf_ ht ?_)
 refine Aa (Ly hTs ?_)
 rw[nh 'd']
 refine Aa (Xz hs pl pu ?_)
 have hno:¬((((sIx items.size 0 lo:Nat):Int)==0&&(1:Int)==1&&(sIx items.size items.size hi - sIx items.size 0 lo)==items.size)=true):=by
  intro q
  rw[Bz9,Bz9] at q
  have q1:((sIx items.size 0 lo:Nat):Int)=0:=Kj q.1.1
  have q2:sIx items.size items.size hi - sIx items.size 0 lo=items.size:=Kj q.2
  show hw ⟨'o','o'⟩
 change wpAny _ _ (if (((sIx items.size 0 lo:Nat):Int)==0&&(1:Int)==1&&(sIx items.size items.size hi - sIx items.size 0 lo)==items.size)=true then _ else _) _ _ s
 rw[ng hno,Zv2]
 first
  | show Aa (m:=Lc _) (Ht (Ai ⟨_,rfl,Ai h⟩) htake)
  | show Aa (m:=Lc _) (Ht (Aa (Ai (Ai ⟨_,rfl,Ai h⟩))) htake)
  | show Aa (Aa (m:=Lc _) (Ht (Ai (Ai ⟨_,rfl,Ai h⟩)) htake))
  | show Aa (Aa (m:=Lc _) (Ht (Ai ⟨_,rfl,Ai h⟩) htake))
end
end HT
namespace L2
open PySem PySem.Spec PyProof.Rows
abbrev TO:=St->Hp->(Option Int->Hp->Prop)->Prop
def PO(X:Cx)(e:Option Expr)(t:TO):Prop:=
 ∀(a:PLO) (s:Ub) (b:St) (H:Hp) (Q:Option Int->Hp->Prop),Inv X a b H s->t b H Q->
  ⇑X (evalPart e X.env) (fun u d=>∃o c,Inv X a b c d/\IsPart u o/\Q o c) X.xe s
def Yc8:TO:=fun _ H Q=>Q none H
def Yz6(t:TE):TO:=fun a H Q=>t a H fun x b=>∃i,x= .int i/\Q (some i) b
section
variable{X:Cx}{e:Expr}{te:TE}{lo hi:Option Expr}{tl th:TO}{pos p2:Pos}
def Yk1:PO X none Yc8:=by
 intro a s b H Q I h
 rw[evalPart_none]
 show Ai ⟨none,H,I,.none,h⟩
def Ye2(h:PE X e te):PO X (some e) (Yz6 te):=by
 intro a s b H Q I f
 rw[evalPart_some]
 refine thn (h a s b H _ I f) fun u k zz30=>?_
 let⟨x,j,g,c,d⟩:=zz30
 let⟨i,rfl,q⟩:=d
 let⟨t,rfl⟩:=c
 show⟨some i,j,g,.int i t,q⟩
def SlR(X:Cx)(r:V->Option Int->Option Int->Hp->VK->Prop):Prop:=
 ∀(a:PLO) (s:Ub) (b:St) (H:Hp) (x:V) (v d c:Ua) (lo hi:Option Int) (f:Uc) (Q:VK),Inv X a b H s->RelV x v->s.heap.IsSliceOf f d c .none->IsPart d lo->IsPart c hi->r x lo hi H Q->
  ∃T id,typeLookup (.type T) "__getitem__"=pure (some (.builtin id))/\s.TypeIs v T/\⇑X (getItem v (.ref f)) (EP X a b Q) X.xe s
def tSl(r:V->Option Int->Option Int->Hp->VK->Prop)(te:TE)(tl th:TO):TE:=fun a H Q=>te a H fun x d=>tl a d fun l c=>th a c fun u b=>r x l u b Q
def Z16(C:SlR X r)(F:PE X e te)(D:PO X lo tl)(z:PO X hi th):PE X (.Subscript e (.Slice lo hi none p2) pos) (tSl r te tl th):=by
 intro a s d H Q I h
 refine Subscript_ (thn (F a s d H _ I h) fun v k zz31=>?_)
 let⟨x,O,M,m,p⟩:=zz31
 refine wpAny_Slice (thn (D a k d O _ M p) fun g j ⟨l,N,L,y,o⟩=>thn (z a j d N _ L o) fun f c zz33=>?_)
 let⟨u,i,K,t,n⟩:=zz33
 rw[evalPart_none]
 refine Ai ?_
 have J:Inv X a d i {c with heap:=c.heap.push {cls:= .type "slice",data:= .fields #[g,f,.none]}}:=K.kept (t':=c.toks) fun b P q=>Ah _ q
 let⟨T,id,G,B,E⟩:=C a {c with heap:=c.heap.push {cls:= .type "slice",data:= .fields #[g,f,.none]}} d i x v g f l u c⁻¹ Q J m (Heap.IsSliceOf.new ..) y t n
 change ⇑X (subscriptTail e (.Slice lo hi none p2) v (.ref c⁻¹)) (EP X a d Q) X.xe {c with heap:=c.heap.push {cls:= .type "slice",data:= .fields #[g,f,.none]}}
 show tail_any (ops:=[.ref c⁻¹,v]) B G E (by with_unfolding_all rfl)
def cutV(xs:LV)(lo hi:Option Int):LV:=(xs.drop (HT.sIx xs.length 0 lo)).take (HT.sIx xs.length xs.length hi - HT.sIx xs.length 0 lo)
def Q4(xs:LV)(lo hi:Option Int):(cutV xs lo hi).length<=xs.length:=by
 unfold cutV
 rw[Ke,List.length_drop]
 lia
def rSlT(K:Ab):V->Option Int->Option Int->Hp->VK->Prop:=fun x lo hi H Q=>∃a b,x= .ref a/\SqT K H a b/\
 ¬(HT.sIx b.length 0 lo=0/\HT.sIx b.length b.length hi=b.length)/\∀p,H p=none->Q (.ref p) (upd H p (.tup (cutV b lo hi)))
def Y44:SlR X (rSlT X.K):=by
 intro g s u H x v y w lo hi z Q I k t m l h
 let⟨a,d,rfl,n,p,q⟩:=h
 cases k
 let⟨f,r,j,i⟩:=I.tuple n
 have c:f.toArray.size=d.length:=by rw[Al];show r.length.symm
 refine⟨"tuple",_,Hh.lookup,j.typeIs,?_⟩
 refine HT.Sh j t m l (by rw[c];show p) ?_ (by rw[c];show i)
 rw[c]
 refine⟨.ref s⁻¹,_,I.laid (t':=s.toks) (o:= .tup (cutV d lo hi)) (fun b A q=>Ah _ q) (nc _) ?_,rfl,q _ (I.hok.fresh (nc _))⟩
 show⟨nj (Q4 d lo hi) i,_,(r.drop (HT.sIx d.length 0 lo)).take (HT.sIx d.length d.length hi - HT.sIx d.length 0 lo),IsTup.new _ _⟩
def Yx0(K:Ab):R2:=fun x y H Q=>∃a b d c,x= .ref a/\y= .ref b/\SqT K H a d/\SqT K H b c/\d≠[]/\d.length+c.length<=sizeLine/\
 (c=[]->Q (.ref a) H)/\(c≠[]->∀p,H p=none->Q (.ref p) (upd H p (.tup (d++c))))
def Vals.nil_iff(r:Vals xs us):us=[]↔xs=[]:=by
 cases r with
 | nil=>simp
 | cons _ _=>simp
def Yj7:OpR X (binaryOp .Add) (Yx0 X.K):=by
 intro f s D H x y v u Q I m l h
 let⟨a,b,k,j,rfl,rfl,C,B,A,i,p,n⟩:=h
 cases m
 cases l
 let⟨t,d,r,_⟩:=I.tuple C
 let⟨g,c,p2,_⟩:=I.tuple B
 refine HT.Yk6 r p2 (fun z=>A (d.nil_iff.mp z)) (fun z=>⟨.ref a,H,I,rfl,p (c.nil_iff.mp z)⟩) (fun z=>?_) (by rw[<-d.length,<-c.length];show i)
 refine⟨.ref s⁻¹,_,I.laid (t':=s.toks) (o:= .tup (k++j)) (fun b E q=>Ah _ q) (nc _) ?_,rfl,n (fun w=>z (c.nil_iff.mpr w)) _ (I.hok.fresh (nc _))⟩
 show⟨by rw[Ae];show i,_,d.append c,IsTup.new _ _⟩
end
def ixN(n:Nat)(i:Int):Option Nat:=if 0<=i then(if i<n then some i.toNat else none) else if -(n:Int)<=i then some (i+n).toNat else none
def atI{a:Type}(xs:List a)(i:Int):Option a:=(ixN xs.length i).bind fun j=>xs[j]?
def Ze6{n:Nat}{i:Int}(h:ixN n i=some j):seqIndex? i n=some j/\j<n/\ -(n:Int)<=i/\i<n:=by
 unfold ixN at h
 by_cases b:0<=i
 .rw[nh b] at h
  by_cases a:i<n
  .rw[nh a] at h
   have e:i.toNat=j:=Dg h
   show⟨by rw[seqIndex_of b a,e],'o','o',a⟩
  .rw[ng a] at h;cases h
 .rw[ng b] at h
  by_cases a:-(n:Int)<=i
  .rw[nh a] at h
   have e:(i+n).toNat=j:=Dg h
   show⟨by rw[seqIndex_neg 'o' a,e],'o',a,'o'⟩
  .rw[ng a] at h;cases h
def Co{a:Type}{xs:List a}{i:Int}{v:a}(h:atI xs i=some v):∃j,seqIndex? i xs.length=some j/\xs[j]?=some v/\j<xs.length/\ -(xs.length:Int)<=i/\i<xs.length:=by
 unfold atI at h
 cases e:ixN xs.length i with
 | none=>rw[e] at h;cases h
 | some j=>
  rw[e] at h
  let⟨f,d,c,b⟩:=Ze6 e
  show⟨j,f,h,d,c,b⟩
def Xq{a:Type}{xs:List a}{j:Nat}{v:a}(h:xs[j]?=some v):atI xs (j:Int)=some v:=by
 have b:j<xs.length:=(Ac.mp h).1
 have e:ixN xs.length (j:Int)=some j:=by
  unfold ixN
  rw[nh 'o',nh 'o'];simp
 unfold atI;rw[e];show h
def Nr{a:Type}(xs:List a)(v:a):atI (xs++[v]) (-1)=some v:=by
 have b:(xs++[v]).length=xs.length+1:=by simp
 have e:ixN (xs++[v]).length (-1)=some xs.length:=by
  unfold ixN
  rw[b,ng 'd',nh 'o']
  congr 1
  lia
 unfold atI
 rw[e]
 show(xs++[v])[xs.length]?=some v
 simp
def Zf9(b:Expr):Prop:=∀o i,subscripted b false o i=operate [o,i] (getItem o i)
def IxR(X:Cx)(r:R2):Prop:=
 ∀(c a:Expr) (b:PLO) (s:Ub) (d:St) (H:Hp) (x y:V) (v u:Ua) (Q:VK),Inv X b d H s->RelV x v->RelV y u->r x y H Q->
  subscripted a false v u=operate [v,u] (getItem v u)->⇑X (subscriptTail c a v u) (EP X b d Q) X.xe s
def MtR(X:Cx)(id:String)(r:V->LV->Hp->VK->Prop):Prop:=
 ∀(a:PLO) (s:Ub) (b:St) (H:Hp) (x:V) (c:LV) (v:Ua) (d:LW) (Q:VK),Inv X a b H s->RelV x v->Vals c d->r x c H Q->
  ⇑X (call (.builtin id) (v::d)) (EP X a b Q) X.xe s
section
variable{X:Cx}{a b:Expr}{ta tb:TE}{pos:Pos}
def X07(j:IxR X r)(l:PE X a ta)(k:PE X b tb)(i:Zf9 b):PE X (.Subscript a b pos) (tOp r ta tb):=by
 intro c s d H Q I h
 show Subscript_ (binT l k I h fun v u e x y n m g f q=>j a b c e d n x y v u Q m g f q (i _ _))
def rIxL(K:Ab):R2:=fun x y H Q=>∃p c i v,x= .ref p/\y= .int i/\SqL K H p c/\atI c i=some v/\Q v H
def rIxT(K:Ab):R2:=fun x y H Q=>∃p c i v,x= .ref p/\y= .int i/\SqT K H p c/\atI c i=some v/\Q v H
def rIxS:R2:=fun x y H Q=>∃z i c,x= .str z/\y= .int i/\z.length<=sizeLine/\atI z.cps.toList i=some c/\Q (.str ⟨#[c]⟩) H
def Yk5:IxR X (rIxL X.K):=by
 intro f g c s o H x y v u Q I F E h A
 let⟨p,P,i,z,rfl,rfl,G,L,q⟩:=h
 cases F
 let⟨t,rfl⟩:=E
 let⟨m,r,l,R⟩:=I.list G
 let⟨j,e,O,T,N,M⟩:=Co L
 let⟨w,C,k⟩:=r.get O
 have J:=r.length
 have S:=Qr
 have d:EP X c o Q w s:=⟨z,H,I,k,q⟩
 by_cases B:0<=i
 .have n:i.toNat=j:=by
   rw[seqIndex_of B M] at e
   show Dg e
  show item_listR l.isList B 'o' (by rw[n];simpa using C) d A
 .have n:(i+(m.toArray.size:Int)).toNat=j:=by
   rw[seqIndex_neg 'o' N] at e
   rw[Al,<-J]
   show Dg e
  show subscriptTail_builtinR (x:=w) l.isList.typeIs slot_list_getitem.lookup
   (wpAny_getItem_list_neg (Q:=fun r D=>r=w/\EP X c o Q r D) l.isList 'o' (by rw[Al]<;>lia) 'o' (by rw[n];simpa using C) ⟨rfl,d⟩) A
def Y42:IxR X (rIxT X.K):=by
 intro d e c s k H x y v u Q I o n h B
 let⟨p,L,i,z,rfl,rfl,C,E,q⟩:=h
 cases o
 let⟨t,rfl⟩:=n
 let⟨A,r,l,M⟩:=I.tuple C
 let⟨j,G,F,R,P,O⟩:=Co E
 let⟨w,J,f⟩:=r.get F
 have D:=r.length
 have N:=Qr
 have g:EP X c k Q w s:=⟨z,H,I,f,q⟩
 show subscriptTail_builtinR (x:=w) l.typeIs slot_tuple_getitem.lookup
  (getItem_tuple (j:=j) (Q:=fun r m=>r=w/\EP X c k Q r m) l 'o' 'o' (by rw[Al,<-D];show G) ↥J ⟨rfl,g⟩) B
def Yv7:IxR X rIxS:=by
 intro d e f s C H x y v u Q I l k h m
 let⟨z,i,c,rfl,rfl,E,o,q⟩:=h
 let⟨t,rfl⟩:=l
 let⟨D,rfl⟩:=k
 let⟨j,g,w,G,r,p⟩:=Co o
 have n:z.cps.toList.length=z.length:=by simp[Str.length]
 rw[n] at g r p
 have F:=Qr
 show tail_any (typeIs_str s z t) slot_str_getitem.lookup (getItem_str (c:=c) (by
  have B:decide (i< -(2 ^ 63:Int))=false:=mf 'o'
  have A:decide (i >= 2 ^ 63)=false:=mf 'o'
  rw[B,A,Bool.or_false]) (by rw[g];simpa using w) ⟨.str ⟨#[c]⟩,H,I.tok _,⟨_,rfl⟩,q⟩) m
def Zb6(its:LW)(n j:Nat)(u:Ua):Kg (·.setIfInBounds j u) {cls:= .type "list",data:= .seq its.toArray n}={cls:= .type "list",data:= .seq (its.set j u).toArray n}:=by
 simp[Kg]
def Inv.lst{pins:PLO}{c:St}{H:Hp}{s:Ub}{p:Uc}{xs:LV}(I:Inv X pins c H s)(h:H p=some (.lst xs)):
  ∃(its:LW) (n:Nat),Vals xs its/\s.heap.get? p=some {cls:= .type "list",data:= .seq its.toArray n}/\xs.length<=sizeLine:=by
 let⟨z,its,n,r,e⟩:=I.hok p _ h
 show⟨its,n,r,e,z⟩
def Inv.lstUpd{pins:PLO}{d:St}{H:Hp}{s:Ub}{p:Uc}{xs ys:LV}{its its':LW}{n c:Nat}{f:Obj->Obj}(I:Inv X pins d H s)(h:H p=some (.lst xs))
  (j:s.heap.get? p=some {cls:= .type "list",data:= .seq its.toArray n}) (g:f {cls:= .type "list",data:= .seq its.toArray n}={cls:= .type "list",data:= .seq its'.toArray c}) (r:Vals ys its') (i:ys.length<=sizeLine) (t:Nat):
  Inv X pins d (upd H p (.lst ys)) {s with heap:=s.heap.update p f,toks:=t}:=by
 have e:(s.heap.update p f).get? p=some {cls:= .type "list",data:= .seq its'.toArray c}:=by
  rw[Dv f j (by rw[g]<;>rfl),g]
 refine I.write (x:=p) (e:=p) (by rw[h];trivial) (.inl rfl) (fun b u k q=>(Dk _ _ (Au k)).trans q) ⟨_,e⟩ ?_
 show⟨i,its',c,r,e⟩
def Yu8:V->V->V->Hp->(Hp->Prop)->Prop:=fun o i v H Q=>∃p c k j,o= .ref p/\i= .int k/\H p=some (.lst c)/\ixN c.length k=some j/\Q (upd H p (.lst (c.set j v)))
def Zz8:PSet X Yu8:=by
 intro c s A H o i v J K u Q I D E C h
 let⟨p,B,k,j,rfl,rfl,m,G,q⟩:=h
 cases D
 let⟨t,rfl⟩:=E
 let⟨d,n,r,f,F⟩:=I.lst m
 let⟨e,M,x,w⟩:=Ze6 G
 have g:=r.length
 have L:=Qr
 have z:Inv X c A (upd H p (.lst (B.set j v))) {s with heap:=s.heap.update p (Kg (·.setIfInBounds j u))}:=
  I.lstUpd m f (Zb6 d n j u) (r.set C j) (by rw[Dx];show F) s.toks
 by_cases y:0<=k
 .have l:k.toNat=j:=by
   rw[seqIndex_of y w] at e
   show Dg e
  show PySem.W.ki_setAt f y 'o' (by rw[Al,<-g];show w) (by rw[l];show⟨_,z,q⟩)
 .have l:(k+(d.toArray.size:Int)).toNat=j:=by
   rw[seqIndex_neg 'o' x] at e
   rw[Al,<-g]
   show Dg e
  show PySem.W.ki_setBack f 'o' (by rw[Al,<-g];show x) 'o' (by rw[l];show⟨_,z,q⟩)
def E2(lo hi:Option Int)(n:Nat):(sliceBounds lo hi none n).1=((HT.sIx n 0 lo:Nat):Int)/\(sliceBounds lo hi none n).2.1=((HT.sIx n n hi:Nat):Int)/\(sliceBounds lo hi none n).2.2=1:=by
 refine⟨?_,?_,rfl⟩
 .cases lo with
  | none=>simp[sliceBounds,HT.sIx]
  | some i=>
   simp only[sliceBounds,HT.sIx,Option.getD_none,show(1:Int) >0 by decide,if_true]
   by_cases h:i<0
   .simp only[h,if_true]<;>lia
   .simp only[h,if_false]<;>lia
 .cases hi with
  | none=>simp[sliceBounds,HT.sIx]
  | some i=>
   simp only[sliceBounds,HT.sIx,Option.getD_none,show(1:Int) >0 by decide,if_true]
   by_cases h:i<0
   .simp only[h,if_true]<;>lia
   .simp only[h,if_false]<;>lia
def G4(its:LW)(lo hi:Option Int):slicePick its.toArray lo hi none=((its.drop (HT.sIx its.length 0 lo)).take (HT.sIx its.length its.length hi - HT.sIx its.length 0 lo)).toArray:=by
 let⟨e,d,c⟩:=E2 lo hi its.toArray.size
 unfold slicePick
 rw[e,d,c]
 simp only[sliceRange_one,pick_run,Al]<;>rfl
def rSlL(K:Ab):V->Option Int->Option Int->Hp->VK->Prop:=fun x d e H Q=>∃a c,x= .ref a/\SqL K H a c/\∀p,H p=none->Q (.ref p) (upd H p (.lst (cutV c d e)))
def Yj1:SlR X (rSlL X.K):=by
 intro g s u H x v y w e f z Q I j t l k h
 let⟨a,c,rfl,p,q⟩:=h
 cases j
 let⟨m,r,i,n⟩:=I.list p
 have d:=r.length
 refine⟨"list",_,slot_list_getitem.lookup,i.isList.typeIs,?_⟩
 refine wpAny_getItem_list_slice i.isList t l k .none (by simp) ?_ (by rw[Al]<;>lia)
 rw[G4,<-d]
 refine⟨.ref s⁻¹,_,I.laid (t':=s.toks) (o:= .lst (cutV c e f)) (fun b A q=>Ah _ q) (nc _) ?_,rfl,q _ (I.hok.fresh (nc _))⟩
 show⟨nj (Q4 c e f) n,_,0,(r.drop (HT.sIx c.length 0 e)).take (HT.sIx c.length c.length f - HT.sIx c.length 0 e),Aq _ rfl⟩
def Xc:V->Bool
 | .non=>true
 | .bl _=>true
 | .int _=>true
 | .str _=>true
 | _=>false
def eqV:V->V->Bool
 | .non,.non=>true
 | .bl a,.bl b=>a==b
 | .bl a,.int b=>(if a then 1 else 0)==b
 | .int a,.bl b=>a==(if b then 1 else 0)
 | .int a,.int b=>a==b
 | .str a,.str b=>a==b
 | _,_=>false
def Z33{s:Ub}{y x:V}{u v:Ua}(e:RelV y u)(c:RelV x v)(g:Xc y=true)(f:Xc x=true):Dw A s u v (eqV y x):=by
 cases y with
 | non=>
  cases e
  cases x with
  | non=>cases c;show Dw.same _
  | bl b=>cases c;show Dw.none_bool b
  | int b=>let⟨t,rfl⟩:=c;show Dw.none_int b t
  | str b=>let⟨t,rfl⟩:=c;show Dw.none_str b t
  | _=>show absurd (show false=true from f) Bf9
 | bl a=>
  cases e
  cases x with
  | non=>cases c;show Dw.bool_none a
  | bl b=>cases c;show Dw.bool_bool a b
  | int b=>let⟨t,rfl⟩:=c;show Dw.bool_int a b t
  | str b=>let⟨t,rfl⟩:=c;show Dw.bool_str a b t
  | _=>show absurd (show false=true from f) Bf9
 | int a=>
  let⟨d,rfl⟩:=e
  cases x with
  | non=>cases c;show Dw.int_none a d
  | bl b=>cases c;show Dw.int_bool a d b
  | int b=>let⟨t,rfl⟩:=c;show Dw.int_int a d b t
  | str b=>let⟨t,rfl⟩:=c;show Dw.int_str a d b t
  | _=>show absurd (show false=true from f) Bf9
 | str a=>
  let⟨d,rfl⟩:=e
  cases x with
  | non=>cases c;show Dw.str_none a d
  | bl b=>cases c;show Dw.str_bool a d b
  | int b=>let⟨t,rfl⟩:=c;show Dw.str_int a d b t
  | str b=>let⟨t,rfl⟩:=c;show Dw.str_str a d b t
  | _=>show absurd (show false=true from f) Bf9
 | _=>show absurd (show false=true from g) Bf9
def eqU(x:V)(u:Ua):Bool:=match u with
 | .none=>eqV .non x
 | .bool b=>eqV (.bl b) x
 | .int i _=>eqV (.int i) x
 | .str z _=>eqV (.str z) x
 | _=>false
def Y66{x y:V}(r:RelV y u)(f:Xc y=true):eqU x u=eqV y x:=by
 cases y with
 | non=>cases r;rfl
 | bl b=>cases r;rfl
 | int i=>let⟨t,rfl⟩:=r;rfl
 | str z=>let⟨t,rfl⟩:=r;rfl
 | _=>show absurd (show false=true from f) Bf9
def Jn{x:V}:∀{xs:LV} {us:LW},Vals xs us->xs.all Xc=true->us.any (eqU x)=xs.any fun y=>eqV y x:=by
 intro xs us h
 induction h with
 | nil=>intro _;rfl
 | cons r t ih=>
  intro f
  rw[Hs,Bz9] at f
  rw[Ka,Ka,Y66 r f.1,ih f.2]
def Q0{s:Ub}{x:V}{v:Ua}(d:RelV x v)(e:Xc x=true):∀{xs:LV} {us:LW},Vals xs us->xs.all Xc=true->∀u∈us,Dw A s u v (eqU x u):=by
 intro xs us h
 induction h with
 | nil=>intro _ u c;cases c
 | cons r t ih=>
  intro f g c
  rw[Hs,Bz9] at f
  rcases An.mp c with rfl | c
  .rw[Y66 r f.1];show Z33 r d f.1 e
  .exact ih f.2 g c
def inV(x:V)(xs:LV):Bool:=xs.any fun y=>eqV y x
def rIn(K:Ab)(d:Bool):R2:=fun x y H Q=>∃p c,y= .ref p/\(SqL K H p c\/SqT K H p c)/\Xc x=true/\c.all Xc=true/\Q (.bl (if d then !inV x c else inV x c)) H
def Zg3:OpR X (compareOp .In) (rIn X.K false):=by
 intro j s n H x y v u Q I i l h
 let⟨p,o,rfl,d,k,e,q⟩:=h
 cases l
 rcases d with d | d
 .let⟨c,r,f,m⟩:=I.list d
  refine SeqAt.in_listAt (eqU x) f.isList (fun w g=>Q0 i k r e w ↥g) ⟨.bl _,H,I,rfl,?_⟩
  rw[show c.toArray.any (eqU x)=c.any (eqU x) by simp,Jn r e]
  show q
 .let⟨c,r,f,m⟩:=I.tuple d
  refine SeqAt.in_tupleAt (eqU x) f (fun w g=>Q0 i k r e w ↥g) ⟨.bl _,H,I,rfl,?_⟩
  rw[show c.toArray.any (eqU x)=c.any (eqU x) by simp,Jn r e]
  show q
def Cb:OpR X (compareOp .NotIn) (rIn X.K true):=by
 intro j s n H x y v u Q I i l h
 let⟨p,o,rfl,d,k,e,q⟩:=h
 cases l
 rcases d with d | d
 .let⟨c,r,f,m⟩:=I.list d
  refine SeqAt.notIn_listAt (eqU x) f.isList (fun w g=>Q0 i k r e w ↥g) ⟨.bl _,H,I,rfl,?_⟩
  rw[show c.toArray.any (eqU x)=c.any (eqU x) by simp,Jn r e]
  show q
 .let⟨c,r,f,m⟩:=I.tuple d
  refine SeqAt.notIn_tupleAt (eqU x) f (fun w g=>Q0 i k r e w ↥g) ⟨.bl _,H,I,rfl,?_⟩
  rw[show c.toArray.any (eqU x)=c.any (eqU x) by simp,Jn r e]
  show q
def Sn:V2 X (.builtin "len") (fun xs H Q=>∃p ys,xs=[.ref p]/\(SqL X.K H p ys\/SqT X.K H p ys)/\Q (.int ys.length) H):=by
 intro i s l H xs m Q I r h
 let⟨p,ys,rfl,d,q⟩:=h
 let⟨u,rfl,j⟩:=J3 r
 cases j
 have n:=Qr
 rcases d with d | d
 .let⟨g,e,f,k⟩:=I.list d
  have c:=e.length
  show Calls.call_len_list f.isList (by simp only[Al]<;>lia) ⟨.int ys.length,H,I.tok _,⟨s.toks+1,by rw[Al,c]⟩,q⟩
 .let⟨g,e,f,k⟩:=I.tuple d
  have c:=e.length
  show len_tuple f (by simp only[Al]<;>lia) ⟨.int ys.length,H,I.tok _,⟨s.toks+1,by rw[Al,c]⟩,q⟩
def Er:V2 X (.builtin "len") (fun xs H Q=>∃z,xs=[.str z]/\z.length<=sizeLine/\Q (.int z.length) H):=by
 intro c s d H xs e Q I r h
 let⟨z,rfl,f,q⟩:=h
 let⟨u,rfl,t,rfl⟩:=J3 r
 have g:=Qr
 show len_str 'o' ⟨.int z.length,H,I.tok _,⟨_,rfl⟩,q⟩
def tyV(K:Ab)(T:String)(x:V)(H:Hp):Prop:=match x with
 | .str _=>T="str"
 | .int _=>T="int"
 | .ref p=>(T="list"/\∃d,SqL K H p d)\/(T="tuple"/\∃o,K.lookup p=some o/\o.cls= .type "tuple"/\o.dict=none)\/
   (T="dict"/\((∃c,H p=some (.dK c))\/∃c,H p=some (.dT c)))\/(T="set"/\∃S n,H p=some (.set S n))
 | _=>False
def Y45{H:Hp}{s:Ub}{T:String}{x:V}{v:Ua}(I:Inv X pins q H s)(r:RelV x v)(g:tyV X.K T x H):
  s.TypeIs v T/\∀a,v= .ref a->∃m,s.heap.get? a=some m/\m.dict=none:=by
 cases x with
 | str z=>
  let⟨t,rfl⟩:=r
  cases (show T="str" from g)
  show⟨typeIs_str s z t,fun _ e=>nomatch e⟩
 | int i=>
  let⟨t,rfl⟩:=r
  cases (show T="int" from g)
  show⟨typeIs_int s i t,fun _ e=>nomatch e⟩
 | ref p=>
  cases r
  rcases g with⟨rfl,A,w⟩ | ⟨rfl,o,d,y,j⟩ | ⟨rfl,d⟩ | ⟨rfl,S,n,d⟩
  .let⟨u,_,l,_⟩:=I.list w
   refine⟨l.isList.typeIs,fun a e=>?_⟩
   cases e
   let⟨o,n,e,c,j,_⟩:=l
   show⟨o,e,j⟩
  .refine⟨⟨o,I.kIn p o d,y⟩,fun a e=>?_⟩
   cases e
   show⟨o,I.kIn _ o d,j⟩
  .have z:∃o,s.heap.get? p=some o/\o.ExactDict:=by
    rcases d with⟨h,d⟩ | ⟨h,d⟩
    .let⟨_,_,_,_,o,_,_,e,f,_⟩:=I.hok p _ d
     show⟨o,e,f⟩
    .let⟨_,_,_,_,o,_,_,e,f,_⟩:=I.hok p _ d
     show⟨o,e,f⟩
   let⟨o,e,f⟩:=z
   refine⟨⟨o,e,f.1⟩,fun a k=>?_⟩
   cases k
   show⟨o,e,f.2.1⟩
  .let⟨o,_,_,_,e,f,_⟩:=I.hok p _ d
   refine⟨⟨o,e,f.1⟩,fun a k=>?_⟩
   cases k
   show⟨o,e,f.2.1⟩
 | _=>show Bk g
def tBM0(K:Ab)(T:String)(r:V->LV->Hp->VK->Prop)(e:TE):TE:=fun d H Q=>e d H fun x c=>tyV K T x c/\r x [] c Q
def tBM(K:Ab)(T:String)(r:V->LV->Hp->VK->Prop)(f:TE)(t:TA):TE:=fun c H Q=>f c H fun x d=>tyV K T x d/\t c d fun e g=>r x e g Q
variable{o e:Expr}{es:List Expr}{to:TE}{t:TA}{name:Str}{apos cpos:Pos}{T id:String}{r:V->LV->Hp->VK->Prop}
def Yu6(q:PlainAttrs T)(g:Slot T name id)(i:typeOf (.builtin id)=pure (.type "method_descriptor"))(w:MtR X id r)(u:PE X o to)
  (f:attributeBase o name X.env (eval o X.env)=eval o X.env:=by rfl) (d:(apos.endLine==cpos.line)=true:=by rfl):PE X (.Call (.Attribute o name apos) [] [] cpos) (tBM0 X.K T r to):=by
 intro c s j H Q I h
 refine wpAny_Call_method0_late f d (thn (u c s j H _ I h) fun v n zz34=>?_)
 let⟨x,A,l,k,m,p⟩:=zz34
 let⟨z,y⟩:=Y45 l k m
 show⟨T,id,q,g,i,z,y,Calls.callWith_builtin rfl (PySem.evalArgs_none (w c n j A x [] v [] Q l k .nil p))⟩
def Yx4(E:PlainAttrs T)(i:Slot T name id)(l:typeOf (.builtin id)=pure (.type "method_descriptor"))(J:MtR X id r)(G:PE X o to)(L:PA X (e::es) t)
  (g:attributeBase o name X.env (eval o X.env)=eval o X.env:=by rfl)
  (j:((backTo cpos (starEach (e::es) X.env)).all (fun x=> !x.1)&&(backToKw cpos (keywordEach [] X.env)).all (fun x=>x.1.isSome)
   &&decide ((e::es).length+([]:List Keyword).length+(if ([]:List Keyword).isEmpty then 0 else 1)<30))=true:=by rfl)
  (f:(apos.endLine==cpos.line)=true:=by rfl) (F:starEach (e::es) X.env=(false,eval e X.env)::starEach es X.env:=by rfl) (d:(backTo cpos (starEach es X.env)).any (·.1)=false:=by rfl):
  PE X (.Call (.Attribute o name apos) (e::es) [] cpos) (tBM X.K T r to t):=by
 intro c s k H Q I h
 refine wpAny_Call_method_late g j f rfl (thn (G c s k H _ I h) fun v A zz35=>?_)
 let⟨x,R,q,n,y,D⟩:=zz35
 let⟨N,M⟩:=Y45 q n y
 refine⟨T,id,E,i,l,N,M,?_⟩
 have p:=L cpos c A k R _ q D
 rw[F] at p ⊢
 refine Calls.callWith_builtin (by show(false || (backTo cpos (starEach es X.env)).any (·.1))=false;rw[d]<;>rfl) (Calls.evalArgs_plain ?_)
 show thn p fun w z zz36=>by let⟨u,P,O,B,C⟩:=zz36;show J c z k P x u v w Q O n B C
end
def MtM(X:Cx)(id:String)(r:V->LV->Hp->VK->Prop):Prop:=
 ∀(a:PLO) (s:Ub) (b:St) (H:Hp) (x:V) (c:LV) (v:Ua) (d:LW) (Q:VK),Inv X a b H s->RelV x v->Vals c d->r x c H Q->
  ⇑X (call (.builtin id) (v::d)) (EP X a b Q) X.xe s
def Vals.one:∀{x:V} {us:LW},Vals [x] us->∃u,us=[u]/\RelV x u:=by
 intro x us h
 cases h with
 | cons r t=>cases t;show⟨_,rfl,r⟩
def Vals.zero:∀{us:LW},Vals [] us->us=[]
 | _,.nil=>rfl
def Vals.dropLast(h:Vals xs us):Vals xs.dropLast us.dropLast:=by
 induction h with
 | nil=>show .nil
 | cons r t a=>
  cases t with
  | nil=>show .nil
  | cons q b=>show .cons r a
def Vals.reverse(h:Vals xs us):Vals xs.reverse us.reverse:=by
 induction h with
 | nil=>show .nil
 | cons r t a=>rw[Ix,Ix];show Vals.append a (.cons r .nil)
def Vals.rep(h:Vals xs us):∀k:Nat,Vals (Ds k xs).flatten (Ds k us).flatten
 | 0=> .nil
 | k+1=>by
  rw[Ii,Ii,Kv,Kv]
  show Vals.append h (Vals.rep h k)
def Zc2{c:Type}(l:List c):l.eraseIdx (l.length - 1)=l.dropLast:=by
 induction l with
 | nil=>rfl
 | cons a r d=>
  cases r with
  | nil=>rfl
  | cons b r=>
   have e:(a::b::r).length - 1=((b::r).length - 1)+1:=by
    have g:(a::b::r).length=r.length+2:=rfl
    have f:(b::r).length=r.length+1:=rfl
    lia
   rw[e,List.eraseIdx_cons_succ,d]
   all_goals rfl
def Ea(its:LW):∀(k:Nat) (a:LW),
  List.foldl (fun c b=>c++b) a.toArray (Ds k its.toArray)=(a++(Ds k its).flatten).toArray
 | 0,a=>by simp
 | k+1,a=>by
  have e:a.toArray++its.toArray=(a++its).toArray:=by simp
  have d:(a++its)++(Ds k its).flatten=a++(Ds (k+1) its).flatten:=by
   rw[Ii,Kv,As]
  rw[<-d,<-Ea its k (a++its),<-e,Ii,Kq]
section
variable{X:Cx}{pins:PLO}{σ:St}{H:Hp}{s:Ub}{l b:Uc}{xs ys zs:LV}
def Inv.lset{its its':LW}{n:Nat}{f:Array Ua->Array Ua}{t':Nat}(I:Inv X pins σ H s)(i:H l=some (.lst xs))
  (e:s.heap.get? l=some {cls:= .type "list",data:= .seq its.toArray n}) (g:f its.toArray=its'.toArray) (c:Vals ys its') (a:ys.length<=sizeLine):
  Inv X pins σ (upd H l (.lst ys)) {s with heap:=s.heap.update l (Kg f),toks:=t'}:=by
 have q:=PySem.IsL.update e f
 rw[g] at q
 refine I.write (x:=l) (e:=l) (by rw[i];show trivial) (.inl rfl) (fun j u h d=>(Dk s.heap (Kg f) (Au h)).trans d) ⟨_,q⟩ ?_
 show⟨a,its',_,c,q⟩
def Inv.lnew(I:Inv X pins σ H s)(a:Vals ys its)(hz:ys.length<=sizeLine):
  Inv X pins σ (upd H s⁻¹ (.lst ys)) {s with heap:=s.heap.push {cls:= .type "list",data:= .seq its.toArray},toks:=t'}:=
 I.laid (fun _ _ q=>Ah _ q) (nc _) ⟨hz,its,0,a,Aq _ rfl⟩
def Inv.fresh(I:Inv X pins σ H s):H s⁻¹=none:=I.hok.fresh (nc _)
def Inv.lstM(I:Inv X pins σ H s)(a:H l=some (.lst xs)):xs.length<=sizeLine/\∃(its:LW) (n:Nat),Vals xs its/\xs.length=its.length/\s.heap.get? l=some {cls:= .type "list",data:= .seq its.toArray n}:=by
 let⟨z,its,n,r,e⟩:=I.hok l _ a
 show⟨z,its,n,r,r.length,e⟩
def Z73{n:Nat}(h:n<=sizeLine):Ld n=false:=by
 unfold Ld
 show mf 'o'
end
section
variable{X:Cx}
def Yk4:V->LV->Hp->VK->Prop:=fun x b H Q=>∃l a y,x= .ref l/\b=[y]/\H l=some (.lst a)/\a.length<sizeLine/\Q .non (upd H l (.lst (a++[y])))
def Pb:MtM X "list.append" Yk4:=by
 intro b s i H x k v m Q I d f h
 let⟨l,j,y,rfl,rfl,c,o,q⟩:=h
 cases d
 let⟨u,rfl,g⟩:=f.one
 let⟨z,a,n,r,p,e⟩:=I.lstM c
 refine Md F.slot_list_append ⟨_,e,rfl⟩ F.entry_list_append (F.args_list_append_2 _ _) (PySem.list_append l a.toArray n u (by rw[Al];lia)) ⟨e,?_⟩
 refine⟨.non,_,I.lset (its':=a++[u]) c e (by simp) (r.append (.cons g .nil)) ?_,rfl,q⟩
 rw[Ae,Ak]
 lia
def Ye8:V->LV->Hp->VK->Prop:=fun x d H Q=>∃l b c a,x= .ref l/\d=[.ref b]/\H l=some (.lst c)/\H b=some (.lst a)/\c.length+a.length<=sizeLine/\Q .non (upd H l (.lst (c++a)))
def Zh3:MtM X "list.extend" Ye8:=by
 intro g s A H x E v G Q I j k h
 let⟨l,b,D,B,rfl,rfl,i,w,J,q⟩:=h
 cases j
 let⟨u,rfl,m⟩:=k.one
 cases m
 let⟨z,c,n,r,K,e⟩:=I.lstM i
 let⟨C,a,p,o,t,y⟩:=I.lstM w
 have f:c.toArray.size+a.toArray.size<=sizeLine:=by rw[Al,Al];lia
 have d:¬(!c.toArray.isEmpty&&Ld (c.toArray.size+a.toArray.size))=true:=by
  rw[Z73 f,Bool.and_false]
  show Bf9
 refine Md F.slot_list_extend ⟨_,e,rfl⟩ F.entry_list_extend (F.args_list_extend_2 _ _)
  (AutoSeq1.list_extend_list_list_0 l c.toArray n b a.toArray p d (by rw[Al];lia) 'o') ⟨e,y,?_⟩
 refine⟨.non,_,I.lset (its':=c++a) i e (by simp) (r.append o) ?_,rfl,q⟩
 rw[Ae]
 lia
def rPop:V->LV->Hp->VK->Prop:=fun x b H Q=>∃l a y,x= .ref l/\b=[]/\H l=some (.lst a)/\a[a.length - 1]?=some y/\Q y (upd H l (.lst a.dropLast))
def Yo1:MtM X "list.pop" rPop:=by
 intro d s p H x w v A Q I g i h
 let⟨l,t,y,rfl,rfl,f,k,q⟩:=h
 cases g
 have c:=i.zero
 subst c
 let⟨z,a,n,r,o,e⟩:=I.lstM f
 let⟨u,m,j⟩:=r.get k
 have b:a.toArray[a.toArray.size - 1]?=some u:=by
  change a.toArray[a.length - 1]?=some u
  rw[<-Array.getElem?_toList,<-o]
  show m
 refine Md F.slot_list_pop ⟨_,e,rfl⟩ F.entry_list_pop (F.args_list_pop_1 _) (MeetsSeq.list_pop_last l a.toArray n u b (by rw[Al];lia)) ⟨e,?_⟩
 refine⟨y,_,I.lset (its':=a.dropLast) f e ?_ r.dropLast ?_,j,q⟩
 .change a.toArray.eraseIdxIfInBounds (a.toArray.size - 1)=a.dropLast.toArray
  rw[Al,List.eraseIdxIfInBounds_toArray,Zc2]
 .rw[List.length_dropLast]
  lia
def Yp3:V->LV->Hp->VK->Prop:=fun x b H Q=>∃l a,x= .ref l/\b=[]/\H l=some (.lst a)/\Q .non (upd H l (.lst []))
def Zw7:MtM X "list.clear" Yp3:=by
 intro c s i H x k v m Q I f g h
 let⟨l,j,rfl,rfl,d,q⟩:=h
 cases f
 have b:=g.zero
 subst b
 let⟨z,a,n,r,o,e⟩:=I.lstM d
 refine Md F.slot_list_clear ⟨_,e,rfl⟩ F.entry_list_clear (F.args_list_clear_1 _) (AutoSeq1.list_clear_list_0 l a.toArray n (by rw[Al];lia)) ⟨e,?_⟩
 show⟨.non,_,I.lset (its':=[]) (ys:=[]) d e rfl .nil (nl _),rfl,q⟩
def rCat:R2:=fun x y H Q=>∃l b c a,x= .ref l/\y= .ref b/\H l=some (.lst c)/\H b=some (.lst a)/\c.length+a.length<=sizeLine/\∀p,H p=none->Q (.ref p) (upd H p (.lst (c++a)))
def Ys5:OpR X (binaryOp .Add) rCat:=by
 intro d s t H x y v u Q I g f h
 let⟨l,b,B,w,rfl,rfl,k,m,D,q⟩:=h
 cases g
 cases f
 let⟨z,c,n,r,E,e⟩:=I.lstM k
 let⟨A,a,C,i,j,p⟩:=I.lstM m
 refine PySem.P.add_list e p ?_ (by rw[Al,Al];lia)
 have o:c.toArray++a.toArray=(c++a).toArray:=by simp
 rw[o]
 show⟨.ref _,_,I.lnew (t':=s.toks) (r.append i) (by rw[Ae];lia),rfl,q _ I.fresh⟩
def rRep:R2:=fun x y H Q=>∃l k a,x= .ref l/\y= .int k/\H l=some (.lst a)/\ -(2 ^ 63)<=k/\k<2 ^ 63/\a.length * k.toNat<=sizeLine/\
 ∀p,H p=none->Q (.ref p) (upd H p (.lst (Ds k.toNat a).flatten))
def Yf2{a:Type}(xs:List a)(k:Nat):(Ds k xs).flatten.length=k * xs.length:=by
 induction k with
 | zero=>simp
 | succ k b=>rw[Ii,Kv,Ae,b,Nat.succ_mul,Nat.add_comm]
def Yr5:OpR X (binaryOp .Mult) rRep:=by
 intro pins s σ H x y v u Q I rx ry h
 let⟨l,k,xs,rfl,rfl,hH,h1,h2,hz,q⟩:=h
 cases rx
 let⟨t,rfl⟩:=ry
 let⟨z,its,n,r,hl,e⟩:=I.lstM hH
 have hlen:its.toArray.size * k.toNat<=sizeLine:=by rw[Al,<-hl];show hz
 have hcap:¬its.toArray.size * k.toNat >(2 ^ 63 - 1) / 8:=by
  have:(sizeLine:Nat)<=(2 ^ 63 - 1) / 8:='d'
  lia
 have hfit:¬(!Builtin.List.listFitsIndex k)=true:=by
  rw[fitsIndex_both h1 h2]
  show Bf9
 have hlong:¬Ld (its.toArray.size * k.toNat)=true:=by
  rw[Z73 hlen]
  show Bf9
 have hnew:List.foldl (fun x1 x2=>x1++x2) #[] (Ds (if its.toArray.isEmpty=true then 0 else k.toNat) its.toArray)=(Ds k.toNat its).flatten.toArray:=by
  have f0:∀m:Nat,List.foldl (fun x1 x2=>x1++x2) #[] (Ds m its.toArray)=(Ds m its).flatten.toArray:=fun m=>by
   have:=Ea its m []
   rw[Ir] at this
   show this
  rw[f0]
  cases its with
  | nil=>simp
  | cons a r'=>rw[ng (by simp)]
 refine wpAny_binaryOp_repeat_ref (T:="list") (U:="int") 'd' ⟨_,e,rfl⟩ (fun s'=>typeIs_int s' k t) noFill_list_mul F.fills_int_mul F.slot_int_rmul repeat_list F.slot_int_index.lookup
  (Md F.slot_int_rmul (typeIs_int s k t) F.entry_int_rmul (F.args_int_rmul_2 _ _) (int___rmul___int_list k t l its.toArray n)
   ⟨e,rfl,⟨_,e,rfl⟩,Md F.slot_list_mul ⟨_,e,rfl⟩ F.entry_list_mul (F.args_list_mul_2 _ _) (AutoListH.list___mul___list_int_3 l its.toArray n k t hfit hcap hlong) ⟨e,?_⟩⟩)
 rw[hnew]
 show⟨.ref _,_,I.lnew (t':=s.toks) (r.rep k.toNat) (by rw[Yf2,Nat.mul_comm];show hz),rfl,q _ I.fresh⟩
end
section
variable{κ:Type}[DecidableEq κ]
def valV(kvs:List (κ×V))(k:κ):Option V:=(kvs.find? fun a=>decide (a.1=k)).map (·.2)
def putK(kvs:List (κ×V))(k:κ)(v:V):List (κ×V):=
 if (kvs.any fun a=>decide (a.1=k))=true then kvs.map (fun a=>if a.1=k then(a.1,v) else a) else kvs++[(k,v)]
def G2{p:κ×V}{k:κ}(e:p.1=k):valV (p::r) k=some p.2:=by simp[valV,Hl,e]
def J0{p:κ×V}{k:κ}(e:¬p.1=k):valV (p::r) k=valV r k:=by simp[valV,Hl,e]
def Z47(k:κ):∀kvs:List (κ×V),(kvs.any fun a=>decide (a.1=k))=(valV kvs k).isSome
 | []=>rfl
 | p::r=>by
  rw[Ka]
  by_cases e:p.1=k
  .simp only[G2 e,decide_eq_true e,Bool.true_or,Option.isSome_some]
  .rw[J0 e,mf e,Bool.false_or];show Z47 k r
def X5(kvs:List (κ×V))(k:κ)(v:V):(putK kvs k v).length<=kvs.length+1:=by
 unfold putK
 split
 .rw[Af];lia
 .rw[Ae,Ar,List.length_nil];lia
def RelO.isSome_eq(r:RelO o u):o.isSome=u.isSome:=by
 cases o with
 | none=>cases u with
  | none=>rfl
  | some _=>show(show False from r).elim
 | some _=>cases u with
  | none=>show(show False from r).elim
  | some _=>rfl
def RelO.getD{d:V}(r:RelO o u)(a:RelV d d'):RelV (o.getD d) (u.getD d'):=by
 cases o with
 | none=>cases u with
  | none=>show a
  | some _=>show(show False from r).elim
 | some _=>cases u with
  | none=>show(show False from r).elim
  | some _=>show r
def KV.val(r:KV kvs vs)(k:κ):RelO (valV kvs k) (valueAt vs k):=by
 unfold KV at r
 induction r with
 | nil=>show Hu
 | @cons p q i a h t f=>
  let⟨d,g⟩:=h
  by_cases e:p.1=k
  .have c:q.1=k:=d.symm.trans e
   have b:valueAt (q::a) k=some q.2:=by simp[valueAt,Hl,c]
   rw[G2 e,b];show g
  .have c:¬q.1=k:=fun z=>e (d.trans z)
   have b:valueAt (q::a) k=valueAt a k:=by simp[valueAt,Hl,c]
   rw[J0 e,b];show f
def KV.any(r:KV kvs vs)(k:κ):(kvs.any fun a=>decide (a.1=k))=vs.any fun a=>decide (a.1=k):=by
 unfold KV at r
 induction r with
 | nil=>rfl
 | cons h t b=>rw[Ka,Ka,b,h.1]
def KV.repl(r:KV kvs vs)(k:κ){y:V}(c:RelV y u):
  KV (kvs.map fun a=>if a.1=k then(a.1,y) else a) (vs.map fun a=>if a.1=k then(a.1,u) else a):=by
 unfold KV at r ⊢
 induction r with
 | nil=>show .nil
 | @cons p q i g h t d=>
  rw[De,De]
  refine .cons ?_ d
  let⟨b,f⟩:=h
  by_cases e:p.1=k
  .rw[nh e,nh (b.symm.trans e)];show⟨b,c⟩
  .rw[ng e,ng (fun z=>e (b.trans z))];show⟨b,f⟩
def KV.put(r:KV kvs vs)(k:κ){y:V}(a:RelV y u):KV (putK kvs k y) (stored vs k u):=by
 unfold putK stored
 rw[r.any k]
 by_cases e:(vs.any fun b=>decide (b.1=k))=true
 .rw[nh e,nh e];show r.repl k a
 .rw[ng e,ng e];show Paired.snoc r ⟨rfl,a⟩
def KV.length(r:KV kvs vs):kvs.length=vs.length:=Paired.length r
end
def Gu{P:Ud}{k:Key}(r:RelV (kV k) u):(Zp P w).is k u=true:=by
 cases k with
 | inl i=>let⟨t,e⟩:=(show ∃t,u=Value.int i t from r);subst e;show B3 P w i t
 | inr x=>let⟨t,e⟩:=(show ∃t,u=Value.str x t from r);subst e;show Ce P w x t
def Fu{P:Ud}:∀{ks:List Key} {us:LW},Vals (ks.map kV) us->ItemsAre (Zp P w) ks us
 | [],_,r=>by rw[Iu] at r;cases r;show .nil
 | k::ks,_,r=>by
  rw[De] at r
  cases r with
  | cons h t=>show .cons (Gu h) (Fu t)
abbrev KT(H:Hp):List (List Key×V)->List (List Key×Uc×Ua)->Prop:=Paired fun p q=>p.1=q.1/\H q.2.1=some (.tup (p.1.map kV))/\RelV p.2 q.2.2
def KT.val{H:Hp}(r:KT H kvs xs)(k:List Key):RelO (valV kvs k) ((atKey xs k).map (·.2)):=by
 induction r with
 | nil=>show Hu
 | @cons p q i a h t f=>
  let⟨d,_,g⟩:=h
  by_cases e:p.1=k
  .have c:q.1=k:=d.symm.trans e
   have b:atKey (q::a) k=some q.2:=by simp[atKey,Hl,c]
   rw[G2 e,b];show g
  .have c:¬q.1=k:=fun z=>e (d.trans z)
   have b:atKey (q::a) k=atKey a k:=by simp[atKey,Hl,c]
   rw[J0 e,b];show f
def KT.repl{H:Hp}(r:KT H kvs xs)(k:List Key){y:V}(d:RelV y u):
  KT H (kvs.map fun b=>if b.1=k then(b.1,y) else b) (xs.map (putAt k u)):=by
 induction r with
 | nil=>show .nil
 | @cons p q j i h t f=>
  rw[De,De]
  refine .cons ?_ f
  let⟨a,c,g⟩:=h
  unfold putAt
  by_cases e:p.1=k
  .rw[nh e,nh (a.symm.trans e)];show⟨a,c,d⟩
  .rw[ng e,ng (fun z=>e (a.trans z))];show⟨a,c,g⟩
def KT.put{H:Hp}(r:KT H kvs xs)(k:List Key){b:Uc}{y:V}(d:H b=some (.tup (k.map kV)))(a:RelV y u):
  KT H (putK kvs k y) (storedH xs k b u):=by
 have e:(kvs.any fun c=>decide (c.1=k))=(atKey xs k).isSome:=by
  rw[Z47,(r.val k).isSome_eq,Option.isSome_map]
 unfold putK storedH
 rw[e]
 by_cases q:(atKey xs k).isSome=true
 .rw[nh q,nh q];show r.repl k a
 .rw[ng q,ng q];show Paired.snoc r ⟨rfl,d,a⟩
def KT.keeps{H H':Hp}(r:KT H kvs xs)(a:∀b ys,H b=some (.tup ys)->H' b=some (.tup ys)):KT H' kvs xs:=
 Paired.mapP r fun _ _ z=>⟨z.1,a _ _ z.2.1,z.2.2⟩
section
variable{P:Ud}{w:Ue}{H:Hp}{h:Uf}{a:Uc}
def Yn4(b:HOk P w H h)(e:Rd H a u):Yc P w H h a u:=e.ok b
def Fz(b:HOk P w H h)(e:Rd H a (.dK kvs)):kvs.length<=sizeLine/\(a==sysModules)=false/\∃vs,KV kvs vs/\h.DictOf (Zp P w) a vs:=
 show Yc P w H h a (.dK kvs) from Yn4 b e
def Cu(b:HOk P w H h)(e:H a=some (.dK kvs)):kvs.length<=sizeLine/\(a==sysModules)=false/\∃vs,KV kvs vs/\h.DictOf (Zp P w) a vs:=Fz b (.inl e)
def Ql{ks:List Key}(c:HOk P w H h)(e:H a=some (.tup (ks.map kV))):(tupleKind (Zp P w)).is h ks a:=by
 let⟨_,b,r,o,g,f,n,d⟩:=(show Yc P w H h a (.tup (ks.map kV)) from c a _ e)
 show⟨o,b.toArray,n,g,f,d,by simpa using Fu r⟩
def Z81(d:HOk P w H h)(e:Rd H a (.dT kvs)):kvs.length<=sizeLine/\(a==sysModules)=false/\
  ∃xs,KT H kvs xs/\h.DictOfH (tupleKind (Zp P w)) a xs:=by
 let⟨z,y,xs,r,o,u,v,s,n,k,j,i⟩:=(show Yc P w H h a (.dT kvs) from Yn4 d e)
 refine⟨z,y,xs,r,o,u,v,s,n,k,j,fun x b=>?_,i⟩
 have c:∀{l:List (List Key×V)} {m:List (List Key×Uc×Ua)},KT H l m->∀x∈m,(tupleKind (Zp P w)).is h x.1 x.2.1:=by
  intro l m q
  induction q with
  | nil=>intro x b;show nomatch b
  | @cons p q B A f t g=>
   intro x b
   rcases An.mp b with e | b
   .subst e
    show Ql d (by rw[<-f.1];show f.2.1)
   .exact g x b
 show c r x b
def Yo7(b:HOk P w H h)(e:H a=some (.dT kvs)):kvs.length<=sizeLine/\(a==sysModules)=false/\
  ∃xs,KT H kvs xs/\h.DictOfH (tupleKind (Zp P w)) a xs:=Z81 b (.inl e)
end
def DGet(H:Hp)(a:Uc)(y:V)(r:Option V):Prop:=
 (∃c k,Rd H a (.dK c)/\y=kV k/\r=valV c k)\/∃c k b,Rd H a (.dT c)/\y= .ref b/\H b=some (.tup (k.map kV))/\r=valV c k
def DPut(H:Hp)(a:Uc)(y v:V)(H':Hp):Prop:=
 (∃c k,H a=some (.dK c)/\y=kV k/\c.length<sizeLine/\H'=upd H a (.dK (putK c k v)))\/
 ∃c k b,H a=some (.dT c)/\y= .ref b/\H b=some (.tup (k.map kV))/\c.length<sizeLine/\H'=upd H a (.dT (putK c k v))
def DGet.k{H:Hp}{a:Uc}{k:Key}(e:H a=some (.dK kvs)):DGet H a (kV k) (valV kvs k):= .inl ⟨kvs,k,.inl e,rfl,rfl⟩
def DGet.t{H:Hp}{a b:Uc}{k:List Key}(e:H a=some (.dT kvs))(c:H b=some (.tup (k.map kV))):DGet H a (.ref b) (valV kvs k):= .inr ⟨kvs,k,b,.inl e,rfl,c,rfl⟩
def DPut.k{H:Hp}{a:Uc}{k:Key}{v:V}(e:H a=some (.dK kvs))(b:kvs.length<sizeLine):DPut H a (kV k) v (upd H a (.dK (putK kvs k v))):= .inl ⟨kvs,k,e,rfl,b,rfl⟩
def DPut.t{H:Hp}{a b:Uc}{k:List Key}{v:V}(e:H a=some (.dT kvs))(d:H b=some (.tup (k.map kV)))(c:kvs.length<sizeLine):
  DPut H a (.ref b) v (upd H a (.dT (putK kvs k v))):= .inr ⟨kvs,k,b,e,rfl,d,c,rfl⟩
section
variable{X:Cx}{pins:PLO}{σ:St}{H:Hp}{s:Ub}{a:Uc}{y v:V}{u r:Ua}{o:Option V}{A:Around}{E:VSP}
def Inv.big(I:Inv X pins σ H s):sysModules<s⁻¹:=by
 have h:mainGlobals<s⁻¹:=(I.mod.glob.keeps I.bk).lt
 show Nat.lt_trans 'd' h
def Zk5(C:A.units+1<cLine)(I:Inv X pins σ H s)(g:DGet H a y (some v))(t:RelV y u)(h:∀f s',Inv X pins σ H s'->RelV v f->Q f s'):
  wpAny (model X.prog X.w) A (getItem (.ref a) u) Q E s:=by
 rcases g with⟨i,k,e,n,l⟩ | ⟨i,k,b,e,n,G,l⟩
 .subst n
  let⟨z,F,B,d,q⟩:=Fz I.hok e
  let⟨f,j,c⟩:=RelO.some_of (v:=v) (o:=valueAt B k) (by rw[l];show d.val k)
  show wpAny_getItem_of (Gu t) q.mapOf j (h f _ (I.tok _) c)
 .subst n
  cases (show u=Value.ref b from t)
  let⟨z,F,x,d,q⟩:=Z81 I.hok e
  let⟨f,j,c⟩:=RelO.some_of (v:=v) (o:=(atKey x k).map (·.2)) (by rw[l];show d.val k)
  let⟨p,D,m⟩:=Ch.mp j
  refine wpAny_getItem_heap (Kk C) (Ql I.hok G) q D ?_
  rw[m]
  show h f _ (I.tok _) c
def d_in(n:A.units+1<cLine)(I:Inv X pins σ H s)(g:DGet H a y o)(m:RelV y u)(h:∀s',Inv X pins σ H s'->Q (.bool o.isSome) s'):
  wpAny (model X.prog X.w) A (compareOp .In u (.ref a)) Q E s:=by
 rcases g with⟨d,k,e,i,l⟩ | ⟨d,k,b,e,i,p,l⟩
 .subst i
  let⟨z,f,x,c,j⟩:=Fz I.hok e
  refine wpAny_in_of (Gu m) f j.mapOf ?_
  rw[<-(c.val k).isSome_eq,<-l]
  show h _ (I.tok _)
 .subst i
  cases (show u=Value.ref b from m)
  let⟨z,f,t,c,j⟩:=Z81 I.hok e
  refine wpAny_in_heap (Kk n) (Ql I.hok p) f j ?_
  have q:=(c.val k).isSome_eq
  rw[Option.isSome_map] at q
  rw[<-q,<-l]
  show h _ (I.tok _)
def Zk4(n:A.units+1<cLine)(I:Inv X pins σ H s)(g:DGet H a y o)(m:RelV y u)(h:∀s',Inv X pins σ H s'->Q (.bool (!o.isSome)) s'):
  wpAny (model X.prog X.w) A (compareOp .NotIn u (.ref a)) Q E s:=by
 rcases g with⟨d,k,e,i,l⟩ | ⟨d,k,b,e,i,p,l⟩
 .subst i
  let⟨z,f,x,c,j⟩:=Fz I.hok e
  refine wpAny_notIn_of (Gu m) f j.mapOf ?_
  rw[<-(c.val k).isSome_eq,<-l]
  show h _ (I.tok _)
 .subst i
  cases (show u=Value.ref b from m)
  let⟨z,f,t,c,j⟩:=Z81 I.hok e
  refine wpAny_notIn_heap (Kk n) (Ql I.hok p) f j ?_
  have q:=(c.val k).isSome_eq
  rw[Option.isSome_map] at q
  rw[<-q,<-l]
  show h _ (I.tok _)
def Qd{c:HO}(I:Inv X pins σ H s)(f:Mut (H a))(g:Hv a s.heap h')(h:∃q,h'.get? a=some q)(d:Yc X.prog X.w (upd H a c) h' a c):
  Inv X pins σ (upd H a c) {s with heap:=h',toks:=t'}:=
 I.write (x:=a) (e:=a) f (.inl rfl) (fun b q i z=>(g.2 b i).trans z) h d
def E9{P:Ud}(z:kvs.length<=sizeLine)(c:(a==sysModules)=false)(b:KV kvs vs)(d:h'.DictOf (Zp P w) a vs):
  Yc P w H' h' a (.dK kvs):=⟨z,c,vs,b,d⟩
def Zr3(N:A.units+1<cLine)(I:Inv X pins σ H s)(g:DPut H a y v H')(D:RelV y u)(F:RelV v r)(h:∀s',Inv X pins σ H' s'->Q () s'):
  wpAny (model X.prog X.w) A (setItem (.ref a) u r) Q E s:=by
 rcases g with⟨f,k,e,x,l,B⟩ | ⟨f,k,b,e,x,K,l,B⟩
 .subst x B
  let⟨z,t,M,d,C⟩:=Cu I.hok e
  have m:M.length<=sizeLine:=by rw[<-d.length];show z
  have p:(putK f k v).length<=sizeLine:=by have:=X5 f k v;lia
  refine wpAny_setItem_pairs (hsz:=m) (Gu D) C fun G i n=>h _ ?_
  have O:∃q,G.get? a=some q:=by let⟨q,_,_,j,_⟩:=i;show⟨q,j⟩
  show Qd I (by rw[e];show Hu) n O (E9 p t (d.put k F) i)
 .subst x B
  cases (show u=Value.ref b from D)
  let⟨z,t,L,d,C⟩:=Yo7 I.hok e
  have m:L.length<=sizeLine:=by rw[<-Paired.length d];show z
  have p:(putK f k v).length<=sizeLine:=by have:=X5 f k v;lia
  refine wpAny_setItem_heap (hsz:=m) (Kk N) (Ql I.hok K) C fun G i n=>h _ ?_
  let⟨q,U,V,j,T,S,R,_,P⟩:=i
  refine Qd I (by rw[e];show Hu) n ⟨q,j⟩ ⟨p,t,_,(d.put k K F).keeps fun c W J=>?_,q,U,V,j,T,S,R,P⟩
  rw[Z6 (Ys6 J e (fun z=>nomatch z))]
  show J
end
section
variable{X:Cx}{pins:PLO}{σ:St}{H:Hp}{s:Ub}{a:Uc}{kvs:List (Key×V)}{k:Key}{u:Ua}{A:Around}{E:VSP}
def Yf0(I:Inv X pins σ H s)(e:H a=some (.dK kvs))(h:∀s',Inv X pins σ (upd H a (.dK [])) s'->Q .none s'):wpAny (model X.prog X.w) A (call (.builtin "dict.clear") [.ref a]) Q E s:=by
 let⟨z,l,f,c,d⟩:=Cu I.hok e
 refine call_meetsIn PySem.F.slot_dict_clear d.typeIs PySem.F.entry_dict_clear (PySem.F.args_dict_clear_1 _) (meets_dict_clear (Zp X.prog X.w) a) ⟨f,d,by rw[<-c.length];show z,fun m b g=>h _ ?_⟩
 have j:∃q,m.get? a=some q:=by let⟨q,_,_,i,_⟩:=b;show⟨q,i⟩
 show Qd (t':=s.toks) I (by rw[e];show Hu) g j (E9 (nl _) l .nil b)
def Yx6(I:Inv X pins σ H s)(e:Rd H a (.dK kvs))(h:∀t s',Inv X pins σ H s'->Q (.int kvs.length t) s'):wpAny (model X.prog X.w) A (call (.builtin "len") [.ref a]) Q E s:=by
 let⟨z,c,f,b,d⟩:=Fz I.hok e
 refine call_len_dict c d (by rw[<-b.length];rw[Kz] at z;lia) ?_
 rw[<-b.length]
 show h _ _ (I.tok _)
end
def Cg{f:St}{H:Hp}{s:Ub}{a:Uc}{y:V}(I:Inv X pins f H s)(g:DGet H a y o):s.TypeIs (.ref a) "dict":=by
 rcases g with⟨c,k,e,_,_⟩ | ⟨c,k,b,e,_,_,_⟩
 .let⟨_,_,i,_,d⟩:=Fz I.hok e
  show d.typeIs
 .let⟨_,_,h,_,d⟩:=Z81 I.hok e
  show d.typeIs
def Z60{P:Ud}{H:Hp}(h:Uf)(a:sysModules<h.objs.size):Yc P w H (h.push {cls:= .type "dict",data:= .dict #[]}) h.objs.size (.dK []):=
 ⟨nl _,beq_eq_false_iff_ne.mpr (Au (nk a)),[],.nil,Heap.DictOf.new h⟩
def Zz0{P:Ud}{H:Hp}(h:Uf)(a:sysModules<h.objs.size):Yc P w H (h.push {cls:= .type "dict",data:= .dict #[]}) h.objs.size (.dT []):=
 ⟨nl _,beq_eq_false_iff_ne.mpr (Au (nk a)),[],.nil,_,#[],0,Aq _ rfl,⟨rfl,rfl,rfl⟩,rfl,rfl,List.nodup_nil⟩
def Yn9:TE:=fun _ H Q=>∀p,H p=none->Q (.ref p) (upd H p (.dK []))
def Ym5:TE:=fun _ H Q=>∀p,H p=none->Q (.ref p) (upd H p (.dT []))
section
variable{X:Cx}{pos:Pos}
def Y00:PE X (.Dict [] [] pos) Yn9:=fun b s c H Q I h=>
 wpAny_Dict_empty ⟨.ref s⁻¹,_,I.laid (a:=s⁻¹) (o:= .dK []) (t':=s.toks) (fun _ _ q=>Ah _ q) (nc _) (Z60 s.heap I.big),rfl,h _ (I.hok.fresh (nc _))⟩
def Zx3:PE X (.Dict [] [] pos) Ym5:=fun b s c H Q I h=>
 wpAny_Dict_empty ⟨.ref s⁻¹,_,I.laid (a:=s⁻¹) (o:= .dT []) (t':=s.toks) (fun _ _ q=>Ah _ q) (nc _) (Zz0 s.heap I.big),rfl,h _ (I.hok.fresh (nc _))⟩
end
def Zr2:List (TE×TE)->St->Hp->(List (V×V)->Hp->Prop)->Prop
 | [],_,H,Q=>Q [] H
 |(c,b)::r,a,H,Q=>c a H fun x g=>b a g fun y f=>Zr2 r a f fun d e=>Q ((x,y)::d) e
abbrev VV:List (V×V)->List (Ua×Ua)->Prop:=Paired fun p q=>RelV p.1 q.1/\RelV p.2 q.2
def PPs(X:Cx)(pos:Pos)(keys:List (Option Expr))(values:List Expr)(c:List (TE×TE)):Prop:=
 ∀(a:PLO) (s:Ub) (b:St) (H:Hp) (Q:List (V×V)->Hp->Prop),Inv X a b H s->Zr2 c b H Q->
  ⇑X (evalPairs (pairTrees keys values X.env pos)) (fun f g=>∃d e,Inv X a b e g/\VV d f/\Q d e) X.xe s
def Yi9:PPs X pos [] [] []:=fun a s b H Q I h=>pairTrees_nil_walk ⟨[],H,I,.nil,h⟩
def Zu3{k v:Expr}{ks:List (Option Expr)}{b:List (TE×TE)}(r:PE X k tk)(p:PE X v e)(q:PPs X pos ks vs b):
  PPs X pos (some k::ks) (v::vs) ((tk,e)::b):=fun a s c H Q I h=>
 pairTrees_cons_walk (thn (r a s c H _ I h) fun u g ⟨x,C,z,j,n⟩=>thn (p a g c C _ z n) fun E f ⟨y,B,w,i,m⟩=>
  thn (q a f c B _ w m) fun D F zz37=>by let⟨o,A,t,d,l⟩:=zz37;show⟨(x,y)::o,A,t,.cons ⟨j,i⟩ d,l⟩)
def N2(kvs a:List (Key×V)):List (Key×V):=a.foldl (fun b c=>putK b c.1 c.2) kvs
def KV.merge:∀{a:List (Key×V)} {b:List (Key×Ua)} {kvs:List (Key×V)} {vs:List (Key×Ua)},KV a b->KV kvs vs->KV (N2 kvs a) (merged vs b):=by
 intro a b kvs vs r
 unfold KV at r
 induction r generalizing kvs vs with
 | nil=>intro q;show q
 | @cons p q g f h t d=>
  intro c
  have e:KV (putK kvs p.1 p.2) (stored vs q.1 q.2):=by
   have:=c.put p.1 h.2
   rw[<-h.1];show this
  show d e
def Vo:∀(a kvs:List (Key×V)),(N2 kvs a).length<=kvs.length+a.length
 | [],kvs=>by change kvs.length<=kvs.length+0;lia
 | p::r,kvs=>by
  have c:=Vo r (putK kvs p.1 p.2)
  have b:=X5 kvs p.1 p.2
  show(N2 (putK kvs p.1 p.2) r).length<=_
  rw[Ar];lia
def Ox{P:Ud}:∀{kvs:List (Key×V)} {e:List (Ua×Ua)},VV (kvs.map fun f=>(kV f.1,f.2)) e->∃d,Carries (Zp P w) e d/\KV kvs d
 | [],_,r=>by rw[Iu] at r;cases r;show⟨[],Hu,.nil⟩
 | p::kvs,_,r=>by
  rw[De] at r
  cases r with
  | @cons a b k i h t=>
   let⟨d,c,q⟩:=Ox (P:=P) (w:=w) t
   let⟨j,g⟩:=b
   show⟨(p.1,g)::d,⟨Gu h.1,rfl,c⟩,.cons ⟨rfl,h.2⟩ q⟩
def Yy6(b:List (TE×TE)):TE:=fun e H Q=>∀p,H p=none->Zr2 b e (upd H p (.dK [])) fun f d=>d p=some (.dK [])/\∃a:List (Key×V),f=a.map (fun c=>(kV c.1,c.2))/\a.length<=15/\Q (.ref p) (upd d p (.dK (N2 [] a)))
def Yh0{keys:List (Option Expr)}{b:List (TE×TE)}(h:PPs X pos keys values b)(g:keys.all (·.isSome)=true)(B:keys.length=values.length)(h0:keys≠[])
  (k:keys.length<=15):PE X (.Dict keys values pos) (Yy6 b):=by
 intro d s m H Q I q
 have A:=I.hok.fresh (nc s⁻¹)
 have K:=I.laid (a:=s⁻¹) (o:= .dK []) (h':=s.heap.push {cls:= .type "dict",data:= .dict #[]}) (t':=s.toks) (fun _ _ q=>Ah _ q) (nc _) (Z60 s.heap I.big)
 refine wpAny_Dict_walk (knd:=Zp X.prog X.w) g B h0 k (thn (h d _ m _ _ K (q _ A)) fun L M zz38=>?_)
 let⟨N,R,l,j,e,f,G,O,u⟩:=zz38
 subst G
 let⟨p,c,r⟩:=Ox (P:=X.prog) (w:=X.w) j
 let⟨z,D,n,t,J⟩:=Cu l.hok e
 cases t
 refine⟨p,c,J,fun F i x=>⟨.ref s⁻¹,_,?_,rfl,u⟩⟩
 have v:(N2 [] f).length<=sizeLine:=by
  have E:=Vo f []
  rw[List.length_nil] at E
  rw[Kz];lia
 have C:∃q,F.get? s⁻¹=some q:=by let⟨q,_,_,y,_⟩:=i;show⟨q,y⟩
 show Qd l (by rw[e];show Hu) x C (E9 v D (r.merge .nil) i)
structure M1(X:Cx)(o:Expr)(m:Str)(apos:Pos)(e:Expr)(cpos:Pos):Prop where
 base:attributeBase o m X.env (eval o X.env)=eval o X.env
 few:((backTo cpos (starEach [e] X.env)).all (fun x=> !x.1)&&(backToKw cpos (keywordEach [] X.env)).all (fun x=>x.1.isSome)
  &&decide (([e]:List Expr).length+([]:List Keyword).length+(if ([]:List Keyword).isEmpty then 0 else 1)<30))=true
 line:(apos.endLine==cpos.line)=true
 trees:backTo cpos (starEach [e] X.env)=[(false,eval e X.env)]
structure M2(X:Cx)(o:Expr)(m:Str)(apos:Pos)(e f:Expr)(cpos:Pos):Prop where
 base:attributeBase o m X.env (eval o X.env)=eval o X.env
 few:((backTo cpos (starEach [e,f] X.env)).all (fun x=> !x.1)&&(backToKw cpos (keywordEach [] X.env)).all (fun x=>x.1.isSome)
  &&decide (([e,f]:List Expr).length+([]:List Keyword).length+(if ([]:List Keyword).isEmpty then 0 else 1)<30))=true
 line:(apos.endLine==cpos.line)=true
 trees:backTo cpos (starEach [e,f] X.env)=[(false,eval e X.env),(false,eval f X.env)]
section
variable{X:Cx}{pins:PLO}{σ:St}{H:Hp}{s:Ub}{a:Uc}{y d:V}{u r:Ua}{o:Option V}{A:Around}{E:VSP}
def Yp1(v:A.units+1<cLine)(I:Inv X pins σ H s)(g:DGet H a y o)(p:RelV y u)(q:RelV d r)(h:∀n s',Inv X pins σ H s'->RelV (o.getD d) n->Q n s'):
  wpAny (model X.prog X.w) A (call (.builtin "dict.get") [.ref a,u,r]) Q E s:=by
 rcases g with⟨i,k,e,m,l⟩ | ⟨i,k,b,e,m,x,l⟩
 .subst m
  let⟨z,j,B,c,f⟩:=Fz I.hok e
  refine call_meetsIn PySem.F.slot_dict_get f.typeIs PySem.F.entry_dict_get (PySem.F.args_dict_get_3 _ _ _) (meets_dict_get_default (Zp X.prog X.w) a (Gu p) j r) ⟨_,f.mapOf,h _ _ (I.tok _) ?_⟩
  rw[l]
  show(c.val k).getD q
 .subst m
  cases (show u=Value.ref b from p)
  let⟨z,j,t,c,f⟩:=Z81 I.hok e
  refine call_meetsIn PySem.F.slot_dict_get f.typeIs PySem.F.entry_dict_get (PySem.F.args_dict_get_3 _ _ _) (meetsH_dict_get_default (tupleKind (Zp X.prog X.w)) a b j r) ⟨Kk v,k,t,Ql I.hok x,f,h _ _ (I.tok _) ?_⟩
  rw[l]
  show(c.val k).getD q
end
section
variable{X:Cx}{pins:PLO}{σ:St}{H:Hp}{s:Ub}{a:Uc}{kvs:List (Key×V)}{A:Around}{E:VSP}
def Zv5(I:Inv X pins σ H s)(e:Rd H a (.dK kvs))(h:∀p s',H p=none->Inv X pins σ (upd H p (.dK kvs)) s'->Q (.ref p) s'):wpAny (model X.prog X.w) A (call (.type "dict") [.ref a]) Q E s:=by
 let⟨z,i,k,c,j⟩:=Fz I.hok e
 refine kt_call_dict i j (by rw[<-c.length];show z) fun l d g=>?_
 refine h _ _ (I.hok.fresh (nc _)) (I.laid (a:=s⁻¹) (o:= .dK kvs) (t':=s.toks) (fun b q f=>?_) (nc _) (E9 z (beq_eq_false_iff_ne.mpr (Au (nk I.big))) c d))
 show(g.2 b (nk (Aj f))).trans (Ah _ f)
end
end L2
namespace Att
open PySem PySem.W PySem.Calls PyProof.Rows
def Q3{P:Params}:∀(c:List Int) (vs:LW),WellAll P h vs (c.map WData.int)->IntsAre vs c:=by
 intro c
 induction c with
 | nil=>
  intro vs w
  rw[Iu] at w
  cases w
  show .nil
 | cons n c d=>
  intro vs w
  rw[De] at w
  cases w with
  | cons a b=>
   cases a
   show .cons _ _ (d _ b)
def script_of{l:OpenLaw}{n:Nat}(v:l.most=some n){P:Params}{c:LW}
  (e:l.row.toRowW.claim.pre args=true) (k:WellAll P h c args):
  ∃a vs b,c=[Value.ref a]/\args=[WData.list (b.map WData.int)]/\h.get? a=some {cls:= .type "list",data:= .seq vs.toArray}/\IntsAre vs b/\b.length<=n:=by
 have m:WShape.hasAll [] args [.list .int]=true:=(pre_splitW e).1
 have o:l.pre.holds [] {args:=args}=true:=(pre_splitW e).2
 let⟨d,r,rfl,y,x⟩:=hasAllW_cons m
 obtain rfl:=hasAllW_nil x
 let⟨z,rfl,w⟩:=hasW_list y
 let⟨b,rfl⟩:=items_int w
 have f:b.length<=n:=by
  unfold OpenLaw.pre at o
  have j:(WTm.not (.lt (.lit (.int (n:Int))) (.len (.arg 0)))).holds [] {args:=[.list (b.map .int)]}=true:=by
   have j:=(holds_andW o).1
   rw[v] at j
   show j
  have i:=condW_of j (w_not (w_lt w_lit (w_len_list (w_arg rfl))))
  rw[Af] at i
  refine Nat.le_of_not_lt fun q=>?_
  have t:(n:Int)< ((b.length:Nat):Int):='o'
  first
   |(rw[decide_eq_true t] at i;show absurd i 'd')
   |(simp at i;lia)
 cases k with
 | cons s p=>
  cases p
  cases s with
  | list u g=>show⟨_,_,b,rfl,rfl,u,Q3 b _ g,f⟩
def post_true(l:OpenLaw)(args:List WData):l.row.toRowW.claim.post args (.bool true) args=true:=
 postW_of (r:=l.row.toRowW) (X:=(true==true))
  (show WShape.has [] (.bool true) .bool=true by first | rfl | decide | simp[WShape.has,WShape.arms,WShape.armsAll])
  (show(WTm.eq .res (.lit (.bool true))).value [] {args:=args,res:=some (.bool true),after:=args}=some (.bool (true==true)) from w_eq_bool (w_res rfl) w_lit) rfl
end Att
namespace L2
open PySem PySem.Spec PyProof.Rows
def Te:∀{vs:LW} {a:List Int},IntsAre vs a->Vals (a.map V.int) vs
 | _,_,.nil=> .nil
 | _,_,.cons n t h=> .cons ⟨t,rfl⟩ (Te h)
def Only(H:Hp):Prop:=∀b,H b=none\/∃o a,H b=some (.frz o (.lst a))
def Zy7{P:Ud}{w:Ue}{K:Ab}{mg Q:Str->Option Ua}{CX:CXT}{k:Nat}{X a:Uc}{fd:FuncData}{x:Str}{sp:Sp}{c:Ub}{vs:LW}{A:List Int}
  (KX:K.In c.heap) (E:c.heap.Ns mainGlobals mg) (g:c.heap.Ns builtinsNs Q) (T:∀x:Str,x≠"__name__"->Q x=bootBuiltins x) (G:c.heap.NoLimit) (hg:c.gens=#[])
  (N:c.heap.get? a=some {cls:= .type "list",data:= .seq vs.toArray}) (hi:IntsAre vs A) (hl:A.length<=sizeLine) (hr:Room k callerA)
  (F:∀j:Uf,K.In j->j.Ns mainGlobals mg->FnOk P w K mg j CX k X fd [x] sp) (t:∀(s:Ub) (u:Ua),BindsTo s fd ⟨[u],[]⟩ [(x,u)])
  (R:∀H:Hp,Only H->SqL K H a (A.map V.int)->sp [.ref a] H (fun v _=>v= .bl true) fun _ _ _=>False)
  (U:∀H e i,CX [] H c (fun _ _ _=>False) e i->False):
  codeAny (model P w) callerA (.call (.ref X) ⟨[.ref a],[]⟩) (fun r i=>r= .ok (.ret (.bool true))/\OldK c.heap i.heap/\i.os=c.os/\AllBare i.gens) c:=by
 have rv:=Te hi
 have B:=hi.length
 have p:∀H:Hp,Only H->SqL K H a (A.map V.int)->HOk P w H c.heap->(∀b,H b≠none->b=a)->(H a≠none->K.lookup a=none)->
   codeAny (model P w) callerA (.call (.ref X) ⟨[.ref a],[]⟩) (fun r i=>r= .ok (.ret (.bool true))/\OldK c.heap i.heap/\i.os=c.os/\AllBare i.gens) c:=by
  intro H hO hS D hA hK
  have f:∀{b:Uc} {o:Obj},c.heap.get? b=some o->H b=none->(hidT c.heap H).get? b=some o:=fun e n=>Y17 e n
  have O:∀{b:Uc} {o:Obj} {J:Array DictEntry} {L:Nat},c.heap.get? b=some o->o.data= .dict J L->H b=none:=fun{b o J L} e d=>by
   cases q:H b with
   | none=>rfl
   | some u=>
    have Y:b=a:=hA b (by rw[q];simp)
    subst Y
    rw[N] at e;cases e
    have d':Data.seq vs.toArray _=Mi J L:=d
    cases d'
  have l:∀{b:Uc} {m:Str->Option Ua},c.heap.Ns b m->(hidT c.heap H).Ns b m:=fun{b m} zz39=>by let⟨o,J,L,e,d,r⟩:=zz39;show⟨o,J,L,f e (O e d),d,r⟩
  have I:K.In (hidT c.heap H):=fun b o e=>f (KX b o e) (by
   cases q:H b with
   | none=>rfl
   | some u=>
    have Y:b=a:=hA b (by rw[q];simp)
    subst Y
    rw[hK (by rw[q];simp)] at e;cases e)
  have hM:Mod K mg (hidT c.heap H):=⟨I,l E,⟨Q,l g,T⟩,let ⟨mc,h1,h2⟩:=G;⟨mc,l h1,h2⟩⟩
  have e0:Env0 P w K mg (hidT c.heap H) callerA [] c H:=⟨rfl,hM,fun b o e=>Y88 e,Nat.le_of_eq (Zs7 _ _),trivial,fun b g=>absurd (show b∈([]:List Uc) from g) (by simp),D,.of_eq hg⟩
  refine Ki ((F _ I (l E)).run callerA [] c H ⟨[.ref a],[]⟩ [.ref a] [.ref a] _ _ hr e0 (t c (.ref a)) (.cons rfl .nil) (R H hO hS)) fun r i h=>?_
  cases r with
  | error e=>show(U H e i h).elim
  | ok fl=>
   cases fl with
   | next=>show Bk h
   | brk=>show Bk h
   | cont=>show Bk h
   | ret u=>
    let⟨v,H',os,M,Z,C,r',q⟩:=h
    have q':v= .bl true:=q
    subst q'
    obtain rfl:u=Value.bool true:=r'
    refine⟨rfl,OldK.of_keep fun b o e=>?_,os,M⟩
    cases q:H b with
    | none=>show Z.keep b o e q (by intro z;show absurd (show b∈([]:List Uc) from z) (by simp)) (by simp)
    | some u=>
     rcases hO b with z | ⟨ob,xs,z⟩
     .rw[q] at z;cases z
     .have z2:=Z.frzs b ob _ z
      let⟨e1,_⟩:=D b _ z
      let⟨e2,_⟩:=C b _ z2
      rw[e] at e1;cases e1
      show e2
 cases S:K.lookup a with
 | some o=>
  have e:=KX a o S
  rw[N] at e
  cases e
  refine p (fun _=>none) (fun _=> .inl rfl) (.inr ⟨_,vs.toArray,_,S,rfl,rfl,rfl,by rw[Al,B];show hl,↥rv⟩) (fun b u z=>by have y:(none:Option HO)=some u:=z;cases y) (fun b z=>absurd rfl z) fun z=>absurd rfl z
 | none=>
  refine p (fun b=>if b=a then some (.frz {cls:= .type "list",data:= .seq vs.toArray} (.lst (A.map V.int))) else none) (fun b=>?_) (.inl (.inr ⟨{cls:= .type "list",data:= .seq vs.toArray},nh rfl⟩)) (fun b u z=>?_) (fun b z=>?_) fun _=>S
  .by_cases g:b=a
   .exact .inr ⟨_,_,nh g⟩
   .exact .inl (ng g)
  .by_cases g:b=a
   .have y:=(nh g).symm.trans z
    cases y
    subst g
    show⟨N,by rw[Af];show hl,vs,_,rv,N⟩
   .have y:=(ng g).symm.trans z
    cases y
  .by_cases g:b=a
   .exact g
   .exact absurd (ng g) z
abbrev CX0:CXT:=fun _ _ _ _ _ _=>False
abbrev E0:XK:=fun _ _ _=>False
structure Fun(K:Ab)(x qual:Str)(st:Stmt)(f:Uc)(fd:FuncData):Prop where
 ex:∃(oc:Ua) (od:Option Uc) (dV kV doc pm:Ua) (an:Option Uc) (cdv ct:Ua) (osl:Array (Option Ua)),
  fd=Hj x qual (Yr st) (Zr st) (Zc st) dV kV doc pm an cdv ct/\K.lookup f=some ⟨oc,od,.func fd,osl⟩/\Kf K cdv qual=true
 kp:Dm K (.ref f)=true
section
variable{P:Ud}{w:Ue}{K:Ab}{mg:Str->Option Ua}{base:Uf}
def Fun.ok{x a:Str}{st:Stmt}{f:Uc}{i:FuncData}{N ps:LS}{k:Nat}{sp:Sp}(F:Fun K x a st f i)(S:FnScope N ps (Zc st))(d:∀vs H Q E,sp vs H Q E->vs.length=ps.length)
  (c:∀(b:Ua) (A:Around) (outer:List Env) (s:Ub) (H:Hp) (vs:LV) (Q:VK) (E:XK),Room k (A.deeper (envOfC a (Zc st) s⁻¹ f b))->sp vs H Q E->
   ∃t,PSs (cxOf CX0 P w K mg base N a (Zc st) f b A outer s H E).nox (Zr st) t/\t {nx:=fun _ o=>Q .non o,rt:=Q} (start N vs) H):FnOk P w K mg base CX0 (k+1) f i ps sp:=by
 let⟨u,r,y,v,n,p,B,b,z,j,rfl,l,g⟩:=F.ex
 refine Yg9 l g S d fun A outer s H vs Q E m e=>?_
 let⟨t,h,q⟩:=c b A outer s H vs Q E m e
 show⟨t,h.nox,q⟩
def Y58{x a:Str}{st:Stmt}{f:Uc}{n:Ua}{od m:Option Uc}{e:Array (Option Ua)}{i h d g b j:Ua}(l:K.lookup f=some ⟨n,od,.func (Hj x a (Yr st) (Zr st) (Zc st) i h d g m b j),e⟩)
  (c:Kf K b a=true) (k:Dm K (.ref f)=true):Fun K x a st f (Hj x a (Yr st) (Zr st) (Zc st) i h d g m b j):=⟨⟨n,od,i,h,d,g,m,b,j,e,rfl,l,c⟩,k⟩
end
section
variable{X:Cx}
def Zo3:V2 X (.builtin "len") (fun xs H Q=>∃a kvs,xs=[V.ref a]/\H a=some (.dK kvs)/\Q (.int kvs.length) H):=by
 intro b s f H xs g Q I r h
 let⟨a,kvs,rfl,d,q⟩:=h
 let⟨u,rfl,c⟩:=J3 r
 cases c
 show Yx6 I (.inl d) fun t i e=>⟨.int kvs.length,H,e,⟨t,rfl⟩,q⟩
end
end L2
namespace L3
open PySem PySem.Spec PyProof.Rows L2
def Bits(n:Nat)(x:Int):Prop:=x.natAbs<2 ^ n
def N6{m n:Nat}(h:m<2 ^ n)(a:0<n):m.log2<n:=by
 rcases Nat.eq_zero_or_pos m with h0 | h0
 .rw[h0];show a
 .exact(Nat.log2_lt (nq h0)).mpr h
def Bits.mono{n m:Nat}{x:Int}(h:Bits n x)(k:n<=m):Bits m x:=ni h (Nat.pow_le_pow_right 'd' k)
def Bits.add{n:Nat}{x y:Int}(b:Bits n x)(a:Bits n y):Bits (n+1) (x+y):=by
 unfold Bits at *
 rw[Nat.pow_succ]
 lia
section
variable{X:Cx}
def Zm7(_ j:Int):Prop:=j≠0/\j.natAbs.log2<9000
def Zv3:OpR X (binaryOp .FloorDiv) (rI Zm7 fun i j=> .int (i.fdiv j)):=opI fun _ _ _ _ _ _ _ a q=>floordiv_int a.1 q (.inl (PyProof.noPylong_of_log2 a.2))
def Y95:OpR X (binaryOp .Mult) (rI IntMulOk fun i j=> .int (i * j)):=opI fun _ _ _ _ _ _ _ a q=>mul_int q a
def rIsB(K:Ab):LV->Hp->VK->Prop:=fun a H Q=>∃x n t b,a=[x,.ty n]/\TyOf K H x t/\Kd K t (.type n)=some b/\Q (.bl b) H
def Zu8:V2 X (.builtin "isinstance") (rIsB X.K):=by
 intro a s i H j k Q I r h
 let⟨x,n,t,b,rfl,c,e,q⟩:=h
 let⟨u,v,rfl,g,f⟩:=Pl r
 obtain rfl:v=Value.type n:=f
 show Zl5 I g c e fun d=>⟨.bl b,H,I.tok d,rfl,q⟩
end
mutual
def Rep(K:Ab)(H:Hp):PyData->V->Prop
 | .none,v=>v= .non
 | .bool b,v=>v= .bl b
 | .int i,v=>v= .int i
 | .str x,v=>v= .str x
 | .list d,v=>∃a c,v= .ref a/\SqL K H a c/\Xg K H d c
 | .tuple d,v=>∃a c,v= .ref a/\SqT K H a c/\Xg K H d c
 | .dict _,_=>False
def Xg(K:Ab)(H:Hp):List PyData->LV->Prop
 | [],a=>a=[]
 | d::c,a=>∃v b,a=v::b/\Rep K H d v/\Xg K H c b
end
section
variable{X:Cx}{pins:PLO}{σ:L2.St}{H:Hp}{s:Ub}
mutual
theorem Rep.reads(I:Inv X pins σ H s):∀(d:PyData) (v:V) (u:Ua),Rep X.K H d v->RelV v u->∃as,Reads s.heap u d as
 | .none,v,u,h,r=>by
  unfold Rep at h;subst h
  cases (show u=Value.none from r)
  show⟨[],.none⟩
 | .bool b,v,u,h,r=>by
  unfold Rep at h;subst h
  cases (show u=Value.bool b from r)
  show⟨[],.bool b⟩
 | .int i,v,u,h,r=>by
  unfold Rep at h;subst h
  let⟨t,rfl⟩:=(show ∃t,u=Value.int i t from r)
  show⟨[],.int i t⟩
 | .str x,v,u,h,r=>by
  unfold Rep at h;subst h
  let⟨t,rfl⟩:=(show ∃t,u=Value.str x t from r)
  show⟨[],.str x t⟩
 | .list q,v,u,h,r=>by
  unfold Rep at h
  let⟨a,e,rfl,j,k⟩:=h
  cases (show u=Value.ref a from r)
  let⟨c,f,⟨o,n,p,m,_,l⟩,_⟩:=I.list j
  let⟨as,g⟩:=Xg.reads I q e c k f
  show⟨_,.list p m l g⟩
 | .tuple q,v,u,h,r=>by
  unfold Rep at h
  let⟨a,e,rfl,j,k⟩:=h
  cases (show u=Value.ref a from r)
  let⟨c,f,⟨o,p,m,n,l⟩,_⟩:=I.tuple j
  let⟨as,g⟩:=Xg.reads I q e c k f
  show⟨_,.tuple p m l g⟩
 | .dict w,v,u,h,r=>by
  unfold Rep at h
  show h.elim
theorem Xg.reads(I:Inv X pins σ H s):∀(ds:List PyData) (xs:LV) (us:LW),Xg X.K H ds xs->Vals xs us->∃as,ReadsAll s.heap us ds as
 | [],xs,us,h,r=>by
  unfold Xg at h;subst h
  cases r
  show⟨[],.nil⟩
 | d::ds,xs,us,h,r=>by
  unfold Xg at h
  let⟨v,a,rfl,i,g⟩:=h
  cases r with
  | cons c b=>
   let⟨as,f⟩:=Rep.reads I d v _ i c
   let⟨j,e⟩:=Xg.reads I ds a _ g b
   show⟨_,.cons f e⟩
end
end
section
variable{X:Cx}
def rEqD(K:Ab)(c:Bool):R2:=fun x y H Q=>∃b a,Rep K H b x/\Rep K H a y/\b.canLay0=true/\a.canLay0=true/\min b.depth a.depth<=60/\Q (.bl (if c then !PyData.eqv b a else PyData.eqv b a)) H
def Yl4(n:X.A.units+64<cLine):OpR X (compareOp .Eq) (rEqD X.K false):=by
 intro a s m H x y v u Q I c b h
 let⟨l,k,j,i,g,f,o,q⟩:=h
 let⟨r,e⟩:=Rep.reads I l x v j c
 let⟨p,d⟩:=Rep.reads I k y u i b
 show PySem.SeqAt.compareEq_reads e d g f 'o' ⟨.bl _,H,I,rfl,q⟩
end
end L3
namespace L3
open PySem PySem.W PySem.Calls PyProof.Rows L2
def bigN:Nat:=1048576
def Qv:∀(a:List Int) (i:Int),i∈a->WData.weight (.int i)<=WData.weightAll (a.map WData.int)
 | [],_,h=>nomatch h
 | n::r,i,h=>by
  rw[De]
  have e:WData.weightAll (WData.int n::r.map WData.int)=WData.weight (.int n)+1+WData.weightAll (r.map WData.int):=by simp[WData.weightAll]
  rw[e]
  rcases An.mp h with q | q
  .subst q;lia
  .have:=Qv r i q;lia
def Qt{a:List Int}(h:WData.layableAll [WData.list (a.map WData.int)]=true):∀i∈a,Bits bigN i:=by
 intro i e
 have b:WData.layable (WData.list (a.map WData.int))=true:=by simpa[WData.layableAll] using h
 unfold WData.layable at b
 rw[Bz9] at b
 have l:WData.weight (WData.list (a.map WData.int))<=2 ^ 20:=of_decide_eq_true b.2
 have k:WData.weight (WData.list (a.map WData.int))=WData.weightAll (a.map WData.int):=by simp[WData.weight]
 have j:=Qv a i e
 have c:WData.weight (.int i)=if i==0 then 0 else i.natAbs.log2+1:=by simp[WData.weight]
 unfold Bits bigN
 by_cases d:i=0
 .subst d;show Nat.two_pow_pos _
 .have f:(i==0)=false:=by simpa using d
  rw[f] at c
  have g:i.natAbs.log2<1048576:=by
   have:(2:Nat) ^ 20=1048576:='d'
   simp only[Bool.false_eq_true,if_false] at c
   lia
  show(Nat.log2_lt 'o').mp g
def Fs{l:OpenLaw}{n:Nat}{q:Ud}{loose:LS}{XP:(Str->Option Ua)->Uf->Prop}{YP:Ue->Uf->Prop}{d:DefRec}(F:l.most=some n)(K:d.params.defaults=[])
  (s:∀(w:Ue) (c b:Ub) (mg v:Str->Option Ua) (u:Uc) (o:Obj) (A B p:Ua) (a:Uc) (vs:LW) (g:List Int),
   Ground q loose [] XP w c mg v b.heap->YP w b.heap->mg d.name=↑u->
   b.heap.get? a=some {cls:= .type "list",data:= .seq vs.toArray}->IntsAre vs g->g.length<=n->(∀i∈g,Bits bigN i)->b.gens=#[]->
   codeAny (model l.prog w) callerA (.call (.ref u) ⟨[.ref a],[]⟩) (fun r t=>r= .ok (.ret (.bool true))/\OldK b.heap t.heap/\t.os=b.os/\AllBare t.gens) b):
  WalkO q loose XP YP l.row.toRowW d [] (fun f vs=>PySem.call f vs):=by
 intro w c b mg v G Y u o A B p T P Q R L S y J C z U h m D x I
 let⟨a,vs,g,rfl,rfl,j,e,k⟩:=Att.script_of F h x
 refine enter_call (Ki (s w c b mg v u o A B p a vs g G Y y j e k (Qt m) J) fun r t E=>?_)
 let⟨rfl,O,N,M⟩:=E
 show⟨.inl ⟨.bool true,.bool true,[],rfl,fun _=>rfl,.bool true,Att.post_true l _,fun _=>⟨List.Pairwise.nil,fun _ H=>(nomatch H)⟩⟩,O,N,M⟩
def Yu1{l:PySem.W.OpenLaw}{n k:Nat}{q:Ud}{loose:LS}{XP:(Str->Option Ua)->Uf->Prop}{YP:Ue->Uf->Prop}{d:DefRec}{K:Params->Ab}{CX:Ue->CXT}{sp:Ue->Sp}{x:Str}
  (M:l.most=some n) (A:n<=sizeLine) (C:d.params.defaults=[]) (L:Room k callerA) (P:∀(w:Ue) (h:Uf),YP w h->(K w.params).In h)
  (F:∀(w:Ue) (mg:Str->Option Ua) (y:Uc) (h:Uf),(K w.params).In h->h.Ns mainGlobals mg->mg d.name=↑y->
   ∃E:FuncData,(∀(s:Ub) (u:Ua),BindsTo s E ⟨[u],[]⟩ [(x,u)])/\∀base:Uf,(K w.params).In base->base.Ns mainGlobals mg->FnOk l.prog w (K w.params) mg base (CX w) k y E [x] (sp w))
  (z:∀(w:Ue) (H:Hp) (a:Uc) (r:List Int),r.length<=n->(∀i∈r,Bits bigN i)->Only H->SqL (K w.params) H a (r.map V.int)->sp w [.ref a] H (fun v _=>v= .bl true) fun _ _ _=>False)
  (D:∀(w:Ue) (H:Hp) (s:Ub) (e:Ua) (s':Ub),CX w [] H s (fun _ _ _=>False) e s'->False):
  PySem.W.WalkO q loose XP YP l.row.toRowW d [] (fun f vs=>PySem.call f vs):=by
 refine Fs M C fun w I p mg Z y o X cd U a vs r G Y B t j c m N=>?_
 have J:=P w _ Y
 let⟨E,O,S⟩:=F w mg y _ J G.T.g B
 show Zy7 J G.T.g G.T.b G.T.builtins G.T.nolimit N t j (nj c A) L S O (fun H R Q=>z w H a r c m R Q) fun H e s'=>D w H p e s'
end L3
namespace L3
open PySem
section
variable{P:Ud}{w:Ue}{A:Around}{R:Result->Ub->Prop}{s:Ub}{elt tg iter c:Expr}{scope:Scope}{pos:Pos}{it acc:Ua}{env:Env}
abbrev noE:VSP:=fun _ _=>False
def Z99(I:Nat->Ub->Prop)
  (a:∀n s,I n s->wpAny (model P w) A (pyNext it) (fun r b=>match r with
   | none=>R (.ok .next) b
   | some v=>wpAny (model P w) A (letOwnedTupleGo tg it v) (fun _ i=>wpAny (model P w) A (assign tg env v) (fun _ g=>wpAny (model P w) A (eval elt env) (fun x e=>
     wpAny (model P w) A (call (.builtin "list.append") [acc,x]) (fun _ d=>∃m,m<n/\I m d) noE e) noE g) noE i) noE b) noE s)
  (n:Nat) (h:I n s):codeAny (model P w) A (.compLoop (.ListComp elt [⟨tg,iter,[],0⟩] scope pos) 0 it acc env) R s:=by
 refine codeAny_loop rfl I (fun m z k=>?_) n h
 change wpAny _ A ((compTurn (.ListComp elt [⟨tg,iter,[],0⟩] scope pos) 0 it acc env).onRaise fun x=>do noteFrame x env;theTreesLotGoes x) _ _ z
 refine wpAny_noted ?_
 rw[compTurn_list1]
 refine Aa (Kb (Aa (Dy (a m z k) (fun r b j=>?_) fun _ _ f=>f.elim)))
 cases r with
 | none=>show Ai j
 | some v=>
  refine Aa (Dy j (fun _ i q=>?_) fun _ _ f=>f.elim)
  refine Aa (Dy q (fun _ g p=>?_) fun _ _ f=>f.elim)
  refine Aa (Aa (Dy p (fun x e o=>?_) fun _ _ f=>f.elim))
  show Aa (Dy o (fun _ d l=>Ai (Ai ⟨rfl,l⟩)) fun _ _ f=>f.elim)
def Zd0(I:Nat->Ub->Prop)
  (a:∀n s,I n s->wpAny (model P w) A (pyNext it) (fun r d=>match r with
   | none=>R (.ok .next) d
   | some v=>wpAny (model P w) A (letOwnedTupleGo tg it v) (fun _ k=>wpAny (model P w) A (assign tg env v) (fun _ j=>wpAny (model P w) A (isTrue c env (eval c env)) (fun e b=>
     if e=true then wpAny (model P w) A (eval elt env) (fun x i=>wpAny (model P w) A (call (.builtin "list.append") [acc,x]) (fun _ g=>∃m,m<n/\I m g) noE i) noE b
     else ∃m,m<n/\I m b) noE j) noE k) noE d) noE s)
  (n:Nat) (h:I n s):codeAny (model P w) A (.compLoop (.ListComp elt [⟨tg,iter,[c],0⟩] scope pos) 0 it acc env) R s:=by
 refine codeAny_loop rfl I (fun m z p=>?_) n h
 change wpAny _ A ((compTurn (.ListComp elt [⟨tg,iter,[c],0⟩] scope pos) 0 it acc env).onRaise fun x=>do noteFrame x env;theTreesLotGoes x) _ _ z
 refine wpAny_noted ?_
 rw[compTurn_list]
 refine Aa (Kb (Aa (Dy (a m z p) (fun r d o=>?_) fun _ _ f=>f.elim)))
 cases r with
 | none=>show Ai o
 | some v=>
  refine Aa (Dy o (fun _ k y=>?_) fun _ _ f=>f.elim)
  refine Aa (Dy y (fun _ j u=>?_) fun _ _ f=>f.elim)
  refine Aa (wpAny_tests_one (Dy u (fun e b l=>?_) fun _ _ f=>f.elim))
  cases e with
  | false=>show Ai ⟨rfl,l⟩
  | true=>
   refine Aa (Aa (Dy l (fun x i t=>?_) fun _ _ f=>f.elim))
   show Aa (Dy t (fun _ g q=>Ai (Ai ⟨rfl,q⟩)) fun _ _ f=>f.elim)
end
def S8:∀(b:List (Str×NameKind)) (a:List (Str×Uc)),(∀n,(n,Dj)∈b->∃c,env.cells.lookup n=some c)->
  (∀x c,a.lookup x=some c->env.cells.lookup x=some c)->
  ∃g,(forIn b a fun(x:Str×NameKind) (y:List (Str×Uc))=>match x with
   |(f,l)=>if (l==Dj)=true then do let c <-cellOf env f;pure (ForInStep.yield ((f,c)::y)) else pure (ForInStep.yield y):Sem (List (Str×Uc)))=pure g/\
   (∀x c,g.lookup x=some c->env.cells.lookup x=some c)/\(∀n,(n,Dj)∈b->∃c,g.lookup n=some c)/\∀x c,a.lookup x=some c->∃A,g.lookup x=some A
 | [],a,_,p=>⟨a,rfl,p,(fun _ h=>nomatch h),fun x c e=>⟨c,e⟩⟩
 |(n,k)::r,a,s,p=>by
  by_cases t:k= .free
  .subst t
   let⟨c,w⟩:=s n Bs
   let⟨g,e,v,u,o⟩:=S8 r ((n,c)::a) (fun m j=>s m (Av _ j)) (fun x d i=>by
    rw[Ha] at i
    cases q:x==n with
    | true=>rw[q] at i;cases i;rw[Kj q];show w
    | false=>rw[q] at i;show p x d i)
   refine⟨g,?_,v,fun m j=>?_,fun x d i=>?_⟩
   .rw[Lq]
    show(bind (bind (cellOf env n) _) _:Sem _)=_
    unfold cellOf
    rw[w]
    show e
   .rcases An.mp j with q | q
    .cases q;show o n c (by simp[Ha])
    .exact u m q
   .cases q:x==n with
    | true=>show o x c (by rw[Ha,q])
    | false=>show o x d (by rw[Ha,q];show i)
  .have z:(k==Dj)=false:=by simpa using t
   let⟨g,e,v,u,o⟩:=S8 r a (fun m j=>s m (Av _ j)) p
   refine⟨g,?_,v,fun m j=>?_,o⟩
   .rw[Lq]
    show(bind (if (k==Dj)=true then _ else _) _:Sem _)=_
    rw[z]
    show e
   .rcases An.mp j with q | q
    .cases q;show absurd rfl t
    .exact u m q
def Wq(hn:∀n,(n,Dj)∈scope.names->∃c,env.cells.lookup n=some c):
  ∃cl,closureFor scope env=pure cl/\(∀x c,cl.lookup x=some c->env.cells.lookup x=some c)/\∀n,(n,Dj)∈scope.names->∃c,cl.lookup n=some c:=by
 let⟨cl,e,h1,h2,_⟩:=S8 scope.names [] hn (fun x c h=>by cases h)
 refine⟨cl,?_,h1,h2⟩
 show(congrArg (fun t:Sem (List (Str×Uc))=>bind t fun z=>pure z) e).trans rfl
end L3
namespace L3
open PySem PySem.Spec PyProof.Rows L2
def cxC(X:Cx)(c:LS)(scope:Scope)(b:List (Str×Uc))(C:Uc)(a:List Uc)(pins:PLO)(s:Ub)(H:Hp):Cx where
 prog:=X.prog
 w:=X.w
 K:=X.K
 mg:=X.mg
 base:=X.base
 A:=X.A
 N:=c
 s₀:=s
 H₀:=H
 env:=compEnvC scope b C X.env
 outer:=X.stack
 stack:=X.stack
 ex:=a
 fn:=fun x=>scope.names.any fun y=>y.1==x&&y.2== .cell
 calm:=X.calm
 pn:=X.pn++pins
 xe:=noE
def Xy(scope a:Scope):Scope:=
 {scope with names:=scope.names.map fun(n,k)=>if (k== .free&&a.kind== .function&&a.names.lookup n==some .cell) then(n,.cell) else(n,k)}
def Sb(b:List (Option Nat))(a:L2.St):L2.St:=b.map fun o=>o.bind fun j=>(a[j]?).join
structure CompScope(dsc:Scope)(dN N':LS)(js:List (Option Nat))(scope:Scope):Prop where
 kind:scope.kind= .function
 nd:(scope.names.map (·.1)).Nodup
 loc:∀y∈scope.names,y.2= .local->scope.names.lookup y.1=some .local
 len:js.length=N'.length
 cap:∀(i:Nat) (x:Str) (j:Nat),N'[i]?=some x->js[i]?=some (some j)->dN[j]?=some x/\(x,Dj)∈scope.names
 free:∀n,(n,Dj)∈scope.names->dsc.names.lookup n=some .cell\/dsc.names.lookup n=some .free
 seen:∀n,(n,Dj)∈scope.names->(Xy scope dsc).names.lookup n=some .cell\/(Xy scope dsc).names.lookup n=some .free
def Tz(a:Scope)(d c:LS)(b:List (Option Nat))(scope:Scope):Bool:=
 scope.kind== .function&&decide ((scope.names.map (·.1)).Nodup)&&scope.names.all (fun y=>y.2 != .local || scope.names.lookup y.1==some .local)&&b.length==c.length&&
 (c.zip b).all (fun p=>match p.2 with | some j=>d[j]?==some p.1&&scope.names.contains (p.1,Dj) | none=>true)&&
 scope.names.all (fun y=>y.2 != .free || ((a.names.lookup y.1==some .cell || a.names.lookup y.1==some .free)&&((Xy scope a).names.lookup y.1==some .cell || (Xy scope a).names.lookup y.1==some .free)))
def CompScope.of{a:Scope}{f d:LS}{b:List (Option Nat)}(h:Tz a f d b scope=true):CompScope a f d b scope:=by
 unfold Tz at h
 simp only[Bz9,Hm,beq_iff_eq,bne_iff_ne,Bool.or_eq_true,decide_eq_true_eq] at h
 let⟨⟨⟨⟨⟨s,r⟩,p⟩,o⟩,m⟩,e⟩:=h
 refine⟨s,r,fun y g l=>(p y g).resolve_left fun z=>z l,o,fun i x j u t=>?_,fun n c=>?_,fun n c=>?_⟩
 .have k:(x,some j)∈d.zip b:=Ax (i:=i) (by rw[List.getElem?_zip_eq_some];show⟨u,t⟩)
  have q:=m _ k
  simp only[Bz9,beq_iff_eq,Hq] at q
  show q
 .exact((e _ c).resolve_left fun z=>z rfl).1
 .exact((e _ c).resolve_left fun z=>z rfl).2
def Vd{env:Env}{x:Str}{k:NameKind}:∀{a:List (Str×NameKind)},
  (a.map fun(n,k)=>if (k==Dj&&env.scope.kind== .function&&env.kindOf n==some .cell) then(n,Hf) else(n,k)).lookup x=some k->(k= .cell\/k= .free)->(x,Dj)∈a\/(x,Hf)∈a
 | [],h,_=>by simp at h
 |(n,q)::r,h,f=>by
  rw[De] at h
  by_cases d:x=n
  .subst d
   have i:q= .free\/q= .cell:=by
    by_cases c:(q==Dj&&env.scope.kind== .function&&env.kindOf x==some .cell)=true
    .rw[Bz9,Bz9] at c
     show .inl (Kj c.1.1)
    .simp only[if_neg c] at h
     rw[Ha,beq_self_eq_true] at h
     have e:q=k:=Dg h
     rcases f with z | z
     .exact .inr (e.trans z)
     .exact .inl (e.trans z)
   rcases i with rfl | rfl
   .exact .inl Bs
   .exact .inr Bs
  .have g:(x==n)=false:=by simpa using d
   have b:(r.map fun(n,k)=>if (k==Dj&&env.scope.kind== .function&&env.kindOf n==some .cell) then(n,Hf) else(n,k)).lookup x=some k:=by
    by_cases c:(q==Dj&&env.scope.kind== .function&&env.kindOf n==some .cell)=true
    .simp only[if_pos c] at h
     rw[Ha,g] at h
     show h
    .simp only[if_neg c] at h
     rw[Ha,g] at h
     show h
   show(Vd (env:=env) b f).imp (Av _) (Av _)
structure BlockCells(X:Cx)(scope:Scope)(cl:List (Str×Uc))(sz:Nat)(h1:Uf):Prop where
 each:∀x c,cl.lookup x=some c->X.env.cells.lookup x=some c\/(sz<c/\h1.IsCell c none)
 free:∀n,(n,Dj)∈scope.names->∃c,cl.lookup n=some c/\X.env.cells.lookup n=some c
 own:∀n,(n,Hf)∈scope.names->∃c,cl.lookup n=some c/\sz<c
 inj:∀x y c,cl.lookup x=some c->cl.lookup y=some c->sz<c->x=y
def To{x:Str}:∀(a:List (Str×NameKind)) (n:Nat) (b:List (Str×Uc)),(x,Hf)∉a->(cellsFrom n a b).lookup x=b.lookup x
 | [],_,_,_=>rfl
 |(y,k)::r,n,b,h=>by
  have d:(x,Hf)∉r:=fun z=>h (Av _ z)
  unfold cellsFrom
  split
  .rename_i f
   have c:(x==y)=false:=by
    rw[beq_eq_false_iff_ne]
    intro e
    apply h
    rw[e,<-Kj f]
    show Bs
   rw[To r _ _ d,Ha,c]
  .exact To r n b d
def Qj{x:Str}:∀(a:List (Str×NameKind)) (n:Nat) (b:List (Str×Uc)),(x,Hf)∈a->∃c,(cellsFrom n a b).lookup x=some c/\n<=c
 | [],_,_,h=>by cases h
 |(y,k)::r,n,b,h=>by
  unfold cellsFrom
  by_cases d:(x,Hf)∈r
  .split
   .let⟨c,e,l⟩:=Qj r (n+1) ((y,n)::b) d
    show⟨c,e,'o'⟩
   .exact Qj r n b d
  .rcases An.mp h with e | e
   .cases e
    rw[nh (by rfl),To r _ _ d,Ha,beq_self_eq_true]
    show⟨n,rfl,nc _⟩
   .exact absurd e d
def Vi:∀(b:List (Str×NameKind)) (n:Nat) (a c:List (Str×Uc)),∃own,cellsFrom n b (a++c)=own++c/\cellsFrom n b a=own
 | [],n,a,c=>⟨a,rfl,rfl⟩
 |(y,k)::r,n,a,c=>by
  unfold cellsFrom
  split
  .exact Vi r (n+1) ((y,n)::a) c
  .exact Vi r n a c
def Wr{x:Str}{c:Uc}:∀{a b:List (Str×Uc)},(a++b).lookup x=some c->a.lookup x=some c\/b.lookup x=some c
 | [],b,h=> .inr h
 |(y,d)::a,b,h=>by
  rw[Hx,Ha] at h
  rw[Ha]
  cases e:x==y with
  | true=>rw[e] at h;show .inl h
  | false=>rw[e] at h;show Wr h
def Og{D:L2.St}{H:Hp}{s:Ub}{i:List (Str×Uc)}(F:(scope.names.map (·.1)).Nodup)(I:Inv X pins D H s)(o:Obj)
  (u:∀x c,i.lookup x=some c->X.env.cells.lookup x=some c) (M:∀n,(n,Dj)∈scope.names->∃c,i.lookup n=some c):
  BlockCells X scope (cellsFrom (s⁻¹+1) scope.names i) s⁻¹ (pushCells (s.heap.push o) scope.names):=by
 let⟨E,g,f⟩:=Vi scope.names (s⁻¹+1) [] i
 rw[Ir] at g
 have p:=cellsFrom_ok scope.names (s.heap.push o) (s⁻¹+1) [] ⟨fun _ _ J=>(nomatch J),List.Pairwise.nil⟩ (by rw[Ia];show nc _)
 rw[Ia,f] at p
 have j:∀x c,i.lookup x=some c->c<s⁻¹:=by
  intro x c e
  let⟨v,q⟩:=I.cell x c (u x c e)
  show q.lt
 have m:∀{n:Str},(n,Dj)∈scope.names->(n,Hf)∉scope.names:=by
  intro n L K
  have t:∀(l:List (Str×NameKind)),(l.map (·.1)).Nodup->(n,Dj)∈l->(n,Hf)∈l->False:=by
   intro l
   induction l with
   | nil=>intro _ h;cases h
   | cons y r G=>
    intro d a b
    rw[De,Ko] at d
    rcases An.mp a with g | C
    .rcases An.mp b with f | w
     .rw[<-g] at f;cases f
     .exact d.1 (Hy.mpr ⟨_,w,by rw[<-g]⟩)
    .rcases An.mp b with f | w
     .exact d.1 (Hy.mpr ⟨_,C,by rw[<-f]⟩)
     .exact G d.2 C w
  show t _ F L K
 refine⟨fun x c e=>?_,fun n d=>?_,fun n d=>?_,fun x y c B A k=>?_⟩
 .rw[g] at e
  rcases Wr e with z | z
  .let⟨a,b⟩:=p.empty x c (mem_of_lookup z)
   show .inr ⟨b,a⟩
  .exact .inl (u x c z)
 .let⟨c,k⟩:=M n d
  refine⟨c,?_,u n c k⟩
  rw[To _ _ _ (m d)]
  show k
 .let⟨c,a,b⟩:=Qj scope.names (s⁻¹+1) i d
  show⟨c,a,b⟩
 .rw[g] at B A
  rcases Wr B with z | z
  .rcases Wr A with z2 | z2
   .exact name_of_addr p.apart (mem_of_lookup z) (mem_of_lookup z2)
   .exact absurd (j y c z2) (Nat.lt_asymm k)
  .exact absurd (j x c z) (Nat.lt_asymm k)
def Ou{M:Model}{A:Around}{E:VSP}{s:Ub}{scope:Scope}{a:Uc}{g:List (Str×Uc)}{b:Str}{o:Env}{Q:Env->Ub->Prop}
  (h:Q {scope:=scope,locals:=s⁻¹,globals:=a,cells:=cellsFrom (s⁻¹+1) scope.names g,qual:=b,func:=none,code:=o.code,frame:=o.frame,builtins:=o.builtins} {s with heap:=pushCells (s.heap.push {cls:= .type "dict",data:= .dict #[]}) scope.names}):
  wpAny M A (newFunctionEnv scope a g [] b none .none (some o)) Q E s:=by
 simp only[newFunctionEnv,Option.isSome_some,if_true]
 refine Aa (wpAny_alloc ?_)
 refine Aa (wpAny_layCells _ (fun f c e=>by cases d:c==Hf<;>simp[d]) _ _ _ _ ?_)
 rw[show({s with heap:=s.heap.push {cls:= .type "dict",data:= .dict #[]}}:Ub).heap.objs.size=s⁻¹+1 from Ia ..]
 rw[List.forIn_nil]
 show Aa (Ai (Ai h))
section
variable{X:Cx}{elt tg iter c:Expr}{scope:Scope}{pos:Pos}{N':LS}{js:List (Option Nat)}{wi:TI}{g:TG}{te:TE}{tc:TT}
def O8{H:Hp}{s:Ub}(S:CompScope X.env.scope X.N N' js scope)(I:Inv X pins A H s)
  (f:BlockCells X scope Y s⁻¹ w) (Q:∀b∈J,FpOk X pins H b) (D:∀b∈J,b<s⁻¹)
  {m:Str->Option Ua} (hn:w.Ns s⁻¹ m) (E:∀b o,s.heap.get? b=some o->w.get? b=some o):
  Inv (cxC X N' scope Y s⁻¹ J pins s H) [] (Sb js A) H {s with heap:=w,toks:=tk}:=by
 have ok:(cxC X N' scope Y s⁻¹ J pins s H).Ok:=by
  refine⟨I.ok.mod,S.kind,I.ok.glob,I.ok.blt,nc _,fun x y c w U=>?_,fun x C=>?_,fun x c C e=>?_,I.ok.hd,I.ok.frames,.inl rfl,fun b B=>⟨nk (D b B),fun x c e=>?_⟩,
   I.bs,nj I.ok.bsz I.sz,fun b o e B=>?_,fun b B C=>?_,I.stack,I.stkFree⟩
  .rcases f.each x c w with z | z
   .rcases f.each y c U with z2 | z2
    .exact I.ok.inj x y c z z2
    .exact f.inj x y c w U z2.1
   .exact f.inj x y c w U z.1
  .have h:(relabel scope X.env).names.lookup x=some .cell\/(relabel scope X.env).names.lookup x=some .free:=C
   have t:(x,Dj)∈scope.names\/(x,Hf)∈scope.names:=by
    rcases h with z | z
    .exact Vd z (.inl rfl)
    .exact Vd z (.inr rfl)
   rcases t with z | z
   .let⟨c,e,_⟩:=f.free x z;show⟨c,e⟩
   .let⟨c,e,_⟩:=f.own x z;show⟨c,e⟩
  .have h:(scope.names.any fun y=>y.1==x&&y.2==Hf)=true:=C
   rw[Le] at h
   let⟨⟨y,k⟩,t,M⟩:=h
   rw[Bz9] at M
   have W:y=x:=Kj M.1
   have V:k= .cell:=Kj M.2
   subst W V
   let⟨Z,e',l⟩:=f.own _ t
   have:Z=c:=Dg (e'.symm.trans e)
   subst this
   show ny l
  .rcases f.each x c e with z | z
   .exact(Q b B).2.2.2.2.1 x c z
   .exact fun q=>absurd z.1 (Nat.lt_asymm (by rw[q];show D b B))
  .let⟨_,_,_,f3,_⟩:=Q b B
   rcases f3 with z | z
   .exact I.ok.noex b o e z
   .exact absurd (ni (Aj e) (nj I.ok.bsz z)) (nu _)
  .let⟨_,f1,f2,_⟩:=Q b B
   rcases An.mp (I.stkSub b C) with z | z
   .exact f1 z
   .exact f2 z
 refine⟨ok,rfl,I.bare,Un.kept E,⟨m,hn,fun i x v W V e3=>?_⟩,fun x c e=>?_,I.hok.fresh (nc _),fun x c e=>(f.each x c e).elim (fun z=>I.freeC x c z) (fun z=>I.hok.fresh (ny z.1)),fun p hp=>?_,I.hok.kept E,?_⟩
 .have a:(Sb js A)[i]?=some (some v):=V
  unfold Sb at a
  rw[Ao] at a
  cases q:js[i]? with
  | none=>rw[q] at a;cases a
  | some o=>
   rw[q] at a
   cases o with
   | none=>cases a
   | some j=>
    have K:(A[j]?).join=some v:=Dg a
    let⟨hN,t⟩:=S.cap i x j W q
    have L:A[j]?=some (some v):=by
     cases z:A[j]? with
     | none=>rw[z] at K;cases K
     | some o=>rw[z] at K;show congrArg some K
    let⟨m0,z0,hl⟩:=I.loc
    let⟨c,hc,T⟩:=f.free x t
    have hv:Vis X.env.scope x:=(S.free x t).elim (fun z=> .inr (.inl z)) fun z=> .inr (.inr z)
    let⟨u,r,l⟩:=hl j x v hN L hv
    refine⟨u,r,.inr ⟨?_,c,hc,?_⟩⟩
    .exact S.seen x t
    .rcases l with⟨kl,_⟩ | ⟨_,Z,F,G⟩
     .rcases S.free x t with y | y<;>(have z:=y.symm.trans (show X.env.scope.names.lookup x=some .local from kl);cases z)
     .rw[T] at F
      cases F
      let⟨o,P,R⟩:=G
      show⟨o,E _ _ P,R⟩
 .rcases f.each x c e with z | z
  .let⟨v,o,P,R⟩:=I.cell x c z
   show⟨v,o,E _ _ P,R⟩
  .exact⟨none,z.2⟩
 .have O:p∈X.pn++pins:=(Az.mp hp).elim (fun z=>z) fun z=>absurd z (by simp)
  let⟨e,n,ne,nf,d⟩:=I.pin p O
  refine⟨E _ _ e,n,nk (Aj e),fun z=>?_,d⟩
  rcases An.mp (I.stkSub p.1 z) with y | y
  .exact ne y
  .exact nf y
 .show(Sb js A).length=N'.length
  unfold Sb
  rw[Af];show S.len
end
section
variable{X:Cx}{elt tg iter c:Expr}{scope:Scope}{pos:Pos}{N':LS}{js:List (Option Nat)}{wi:TI}{g:TG}{te:TE}{tc:TT}
def Zn6(js:List (Option Nat))(wi:TI)(g:TG)(te:TE):TE:=fun f H Q=>wi f H fun J k=>∀D,k D=none->∃W:Nat->Nat->L2.St->Hp->Prop,(∃m,W 0 m (Sb js f) (upd k D (.lst [])))/\
 ∀i m b e,W i m b e->(J.stop i e/\Q (.ref D) e)\/(J.go i e/\∀x l,J.yld i e x l->g x b l fun d n=>te d n fun y j=>∃a,j D=some (.lst a)/\a.length<sizeLine/\
  ∃h,h<m/\W (i+1) h d (upd j D (.lst (a++[y]))))
def Y47(js:List (Option Nat))(wi:TI)(g:TG)(tc:TT)(te:TE):TE:=fun j H Q=>wi j H fun J n=>∀D,n D=none->∃W:Nat->Nat->L2.St->Hp->Prop,(∃m,W 0 m (Sb js j) (upd n D (.lst [])))/\
 ∀i m e h,W i m e h->(J.stop i h/\Q (.ref D) h)\/(J.go i h/\∀x o,J.yld i h x o->g x e o fun a p=>tc a p fun b l=>if b=true then te a l fun y k=>∃d,k D=some (.lst d)/\d.length<sizeLine/\
  ∃f,f<m/\W (i+1) f a (upd k D (.lst (d++[y]))) else ∃f,f<m/\W (i+1) f a l)
def Pe{pins:PLO}{σ:L2.St}{H2:Hp}{s2:Ub}{cl:List (Str×Uc)}{it:Uc}{fp:List Uc}{tn:Nat->Uf->Prop}{J:It}{QD:Uc->Hp->Prop}{R:Ua->Uc->Result->Ub->Prop}{E:VSP}
  (hc:X.calm=true) (S:CompScope X.env.scope X.N N' js scope) (c1:∀x c,cl.lookup x=some c->X.env.cells.lookup x=some c) (c2:∀n,(n,Dj)∈scope.names->∃c,cl.lookup n=some c)
  (hg:∀cl C fp pins s H,PG (cxC X N' scope cl C fp pins s H) tg g) (he:∀cl C fp pins s H,PE (cxC X N' scope cl C fp pins s H) elt te)
  (I2:Inv X pins σ H2 s2) (T:Turn X.prog X.w X.K tg J fp it tn) (st2:tn 0 s2.heap) (f2:∀b∈fp,FpOk X pins H2 b)
  (q:∀D,H2 D=none->∃W:Nat->Nat->L2.St->Hp->Prop,(∃m,W 0 m (Sb js σ) (upd H2 D (.lst [])))/\
   ∀i m σc Hc,W i m σc Hc->(J.stop i Hc/\QD D Hc)\/(J.go i Hc/\∀x H',J.yld i Hc x H'->g x σc H' fun σ2 H2=>te σ2 H2 fun y H4=>∃acc,H4 D=some (.lst acc)/\acc.length<sizeLine/\
    ∃m',m'<m/\W (i+1) m' σ2 (upd H4 D (.lst (acc++[y])))))
  (back:∀(D C:Uc) (Hc:Hp) (s4:Ub),(∃m,s4.heap.Ns C m)->Inv X pins σ Hc s4->Hc C=none->C≠X.env.locals->X.s₀⁻¹<=C->(∀x c,X.env.cells.lookup x=some c->c≠C)->(∀p∈X.pn++pins,p.1≠C)->QD D Hc->R (.ref D) C (.ok .next) s4):
  ⇑X (newList []) (fun acc s3=>⇑X (newFunctionEnv scope X.env.globals cl [] X.env.qual none .none (some X.env)) (fun cenv s4=>
   codeAny (model X.prog X.w) X.A (.compStart (.ListComp elt [⟨tg,iter,[],0⟩] scope pos) 0 (.ref it) acc {cenv with scope:=relabel scope X.env}) (R acc cenv.locals) s4) E s3) E s2:=by
 refine Ht (Ou ?_)
 dsimp only
 have I3:Inv X pins σ (upd H2 s2⁻¹ (.lst [])) {s2 with heap:=s2.heap.push {cls:= .type "list",data:= .seq ([]:LW).toArray}}:=I2.lnew (its:=[]) (t':=s2.toks) .nil (nl _)
 let⟨W,⟨m0,w0⟩,turn⟩:=q s2⁻¹ I2.fresh
 have hob:=T.obj 0 _ st2
 have f3:∀b∈fp,FpOk X pins (upd H2 s2⁻¹ (.lst [])) b:=fun b hb=>by
  let⟨o,e,_⟩:=hob b hb
  show⟨by rw[Z6 (nk (Aj e))];show(f2 b hb).1,(f2 b hb).2⟩
 generalize hS3:(s2.heap.push {cls:= .type "list",data:= .seq ([]:LW).toArray}:Uf)=h3 at *
 have k23:∀b o,s2.heap.get? b=some o->h3.get? b=some o:=fun b o e=>by rw[<-hS3];show Ah _ e
 have hlt:∀b∈fp,b<h3.objs.size:=fun b hb=>by
  let⟨o,e,_⟩:=hob b hb
  show Aj (k23 b o e)
 have bc:=Og S.nd I3 {cls:= .type "dict",data:= .dict #[]} c1 c2
 have hns:(pushCells (h3.push {cls:= .type "dict",data:= .dict #[]}) scope.names).Ns h3.objs.size (fun _=>none):=(Heap.Ns.new h3 (.type "dict")).keeps (pushCells_keeps _ _)
 have k31:∀b o,h3.get? b=some o->(pushCells (h3.push {cls:= .type "dict",data:= .dict #[]}) scope.names).get? b=some o:=fun b o e=>pushCells_keeps _ _ b o (Ah _ e)
 dsimp only at bc
 generalize cellsFrom (h3.objs.size+1) scope.names cl=cl' at bc ⊢
 generalize pushCells (h3.push {cls:= .type "dict",data:= .dict #[]}) scope.names=h1 at bc hns k31 ⊢
 have I4:=O8 (tk:=s2.toks) S I3 bc f3 hlt hns k31
 have st4:tn 0 h1:=T.keep 0 _ h1 st2 fun b hb o e=>k31 b o (k23 b o e)
 have nofs:∀b∈fp,b∉(cxC X N' scope cl' h3.objs.size fp pins {s2 with heap:=h3} (upd H2 s2⁻¹ (.lst []))).fs:=I4.ok.exfs
 have stat:∀{H':Hp},(∀b∈fp,H' b=none)->∀b∈fp,FpOk (cxC X N' scope cl' h3.objs.size fp pins {s2 with heap:=h3} (upd H2 s2⁻¹ (.lst []))) [] H' b:=fun{H'} hn b hb=>
  ⟨hn b hb,nk (hlt b hb),nofs b hb,.inl hb,fun x c e=>(bc.each x c e).elim (fun z=>(f3 b hb).2.2.2.2.1 x c z) (fun z q=>absurd z.1 (Nat.lt_asymm (by rw[q];show hlt b hb))),fun p hp=>(f3 b hb).2.2.2.2.2 p (by simpa[cxC] using hp)⟩
 have loop:codeAny (model X.prog X.w) X.A (.compLoop (.ListComp elt [⟨tg,iter,[],0⟩] scope pos) 0 (.ref it) (.ref s2⁻¹) (compEnvC scope cl' h3.objs.size X.env))
   (R (.ref s2⁻¹) h3.objs.size) {s2 with heap:=h1,toks:=s2.toks}:=by
  refine Z99 (fun n s'=>∃i σc Hc,Inv (cxC X N' scope cl' h3.objs.size fp pins {s2 with heap:=h3} (upd H2 s2⁻¹ (.lst []))) [] σc Hc s'/\tn i s'.heap/\(∀b∈fp,Hc b=none)/\W i n σc Hc) ?_ m0
   ⟨0,_,_,I4,st4,fun b hb=>(f3 b hb).1,w0⟩
  rintro n z ⟨i,σc,Hc,Iz,stz,frz,wz⟩
  rcases turn i n σc Hc wz with⟨stop,qd⟩ | ⟨go,step⟩
  .refine thn (T.done (cxC X N' scope cl' h3.objs.size fp pins {s2 with heap:=h3} (upd H2 s2⁻¹ (.lst []))) rfl rfl rfl hc i [] z σc Hc noE Iz (stat frz) stz stop) fun r s4 zz40=>?_
   let⟨hr,I5⟩:=zz40
   subst hr
   have J5:Inv X pins σ Hc s4:=I3.call' (s':=s4) I5.os I5.base I5.hok I5.bare fun b hb=>⟨(f3 b hb).2.2.2.1,(f3 b hb).2.1,(f3 b hb).2.2.2.2.1,(f3 b hb).2.2.2.2.2⟩
   let⟨m,hm,_⟩:=I5.loc
   refine back _ _ Hc s4 ⟨m,hm⟩ J5 I5.free (nq I3.lt) (nj I3.ok.above (ny I3.lt)) (fun x c e z=>?_) (fun p hp z=>?_) qd
   .let⟨v,q⟩:=I3.cell x c e
    show absurd q.lt (by rw[z];show nu _)
   .exact absurd (Aj (I3.pin p hp).1) (by rw[z];show nu _)
  .refine thn (T.item (cxC X N' scope cl' h3.objs.size fp pins {s2 with heap:=h3} (upd H2 s2⁻¹ (.lst []))) rfl rfl rfl hc i [] z σc Hc noE Iz (stat frz) stz go) fun r s4 zz41=>?_
   let⟨u,hr,h4⟩:=zz41
   subst hr
   refine thn h4 fun _ s5 zz42=>?_
   let⟨x,H5,I5,r5,y5,st5,fr5⟩:=zz42
   have I5':=I5.pinned (stat fr5) (T.obj _ _ st5)
   refine thn (hg _ _ _ _ _ _ _ s5 σc H5 x u _ I5' r5 (step x H5 y5)) fun _ s6 zz43=>?_
   let⟨σ6,H6,I6,q6⟩:=zz43
   refine thn (he _ _ _ _ _ _ _ s6 σ6 H6 _ I6 q6) fun v s7 zz44=>?_
   let⟨y,H7,I7,r7,acc,hD,hlen,m',hm,w7⟩:=zz44
   refine thn (Pb _ s7 σ6 H7 (.ref s2⁻¹) [y] (.ref s2⁻¹) [v] (fun _ H8=>H8=upd H7 s2⁻¹ (.lst (acc++[y]))) I7 rfl (.cons r7 .nil) ⟨_,acc,y,rfl,rfl,hD,hlen,rfl⟩) fun _ s8 zz45=>?_
   let⟨_,H8,I8,_,e8⟩:=zz45
   subst e8
   refine⟨m',hm,i+1,σ6,_,I8.unpinned,T.keep _ _ _ st5 fun b hb o e=>(I8.pin (b,o) (Ay _ (Ay _ (Yk hb e)))).1,fun b hb=>?_,w7⟩
   let⟨o,e,d⟩:=T.obj _ _ st5 b hb
   show(I8.pin (b,o) (Ay _ (Ay _ (Yk hb e)))).2.1
 show codeAny_compStart_list loop (T.self _ 0 _ _ _ st4 loop)
def Y04(O:X.calm=true)(F:Tz X.env.scope X.N N' js scope=true)(hi:PI X tg iter wi)(L:∀d C a pins s H,PG (cxC X N' scope d C a pins s H) tg g)(M:∀d C a pins s H,PE (cxC X N' scope d C a pins s H) elt te)
  (E:∀x,foldedSetIterable iter X.env x=pure x:=by intro _;rfl):PE X (.ListComp elt [⟨tg,iter,[],0⟩] scope pos) (Zn6 js wi g te):=by
 intro pins s p H Q I h
 have S:=CompScope.of F
 let⟨d,j,c1,c2⟩:=Wq (scope:=scope) (env:=X.env) fun n G=>I.ok.has n (S.free n G)
 rw[eval_ListComp]
 refine Lf (use:=none) rfl E j S.kind S.loc (thn (hi pins s p H _ I h) fun v s1 V=>thn V fun B s2 U=>?_)
 let⟨it,a,tn,J,H2,e,I2,T,f,Y,u⟩:=U
 subst e
 refine Pe (QD:=fun D l=>Q (.ref D) l) (R:=fun k C=>compPost (model X.prog X.w) X.A X.xe none (EP X pins p Q) k C) O S c1 c2 L M I2 T f Y u ?_
 rintro D C l r ⟨m,K⟩ J4 W z q Z y t
 refine⟨m,K,fun h' i=>⟨.ref D,l,?_,rfl,t⟩⟩
 show J4.turned (t':=r.toks) (fun b o P e=>(i.2 b P).trans e) W z (.inr q) Z y
def Yu0(i:Nat)(js:List (Option Nat))(wi:TI)(g:TG)(te:TE):TS:=fun D a H=>Zn6 js wi g te a H fun v b=>D.nx (a.set i (some v)) b
def Zw0{i:Nat}{x:Str}{f d:Pos}(hc:X.calm=true)(ho:Tz X.env.scope X.N N' js scope=true)(hN:X.N.Nodup)(hx:X.N[i]?=some x)(K:X.env.scope.names.lookup x=some .local)(hi:PI X tg iter wi)
  (hg:∀p C l pins s H,PG (cxC X N' scope p C l pins s H) tg g) (he:∀p C l pins s H,PE (cxC X N' scope p C l pins s H) elt te)
  (t:swapsWith (.ListComp elt [⟨tg,iter,[],0⟩] scope pos) (some (.Name x f)) d.line X.env=pure true)
  (hs:∀x,foldedSetIterable iter X.env x=pure x:=by intro _;rfl):PS X (.Assign [.Name x f] (.ListComp elt [⟨tg,iter,[],0⟩] scope pos) d) (Yu0 i js wi g te):=by
 intro pins s q H D I h
 have S:=CompScope.of ho
 let⟨p,y,c1,c2⟩:=Wq (scope:=scope) (env:=X.env) fun n hn=>I.ok.has n (S.free n hn)
 rw[exec_Assign_Name_used _ _ _ _ t]
 refine Aa (Kb (Aa ?_))
 change wpAny _ _ (do let _ <-comprehension (.ListComp elt [⟨tg,iter,[],0⟩] scope pos) scope X.env _ (newList []) false (eval iter X.env) (some (assign (.Name x f) X.env))) _ _ s
 refine Aa (Dy (Lf (use:=some (assign (.Name x f) X.env)) (Q:=fun _ k=>SP X pins D .next k) rfl hs y S.kind S.loc (thn (hi pins s q H _ I h) fun v s1 h1=>thn h1 fun Z s2 h2=>?_)) (fun _ k hq=>Ai (Ai hq)) fun _ _ e=>e)
 let⟨it,l,tn,J,H2,e,I2,T,r,f2,W⟩:=h2
 subst e
 refine Pe (QD:=fun j F=>D.nx (q.set i (↑j)) F) (R:=fun E C=>compPost (model X.prog X.w) X.A X.xe (some (assign (.Name x f) X.env)) (fun _ k=>SP X pins D .next k) E C) hc S c1 c2 hg he I2 T r f2 W ?_
 rintro j C F U ⟨m,hm⟩ J4 fC G O L Y V
 change wpAny _ _ (assign (.Name x f) X.env (.ref j)) _ _ U
 refine wpAny_assign_Name (Qc J4 hN hx (.inl K) (v:= .ref j) rfl (fun P J5 zz46=>?_) (.inr K))
 let⟨a,M,ha⟩:=zz46
 have B:C≠a:=by
  rcases ha with z | z
  .rw[z];show G
  .exact(L x a z).symm
 refine⟨m,hm.sameBut M B,fun h' u=>⟨q.set i (↑j),F,?_,V⟩⟩
 show J5.turned (t':=P.toks) (fun b o hb e=>(u.2 b hb).trans e) fC G (.inr O) L Y
def Qy{pins:PLO}{σ:L2.St}{H2:Hp}{s2:Ub}{cl:List (Str×Uc)}{it:Uc}{fp:List Uc}{tn:Nat->Uf->Prop}{J:It}{QD:Uc->Hp->Prop}{R:Ua->Uc->Result->Ub->Prop}{E:VSP}
  (hc:X.calm=true) (S:CompScope X.env.scope X.N N' js scope) (c1:∀x c,cl.lookup x=some c->X.env.cells.lookup x=some c) (c2:∀n,(n,Dj)∈scope.names->∃c,cl.lookup n=some c)
  (hg:∀cl C fp pins s H,PG (cxC X N' scope cl C fp pins s H) tg g) (hq:∀cl C fp pins s H,PT (cxC X N' scope cl C fp pins s H) c tc) (he:∀cl C fp pins s H,PE (cxC X N' scope cl C fp pins s H) elt te)
  (I2:Inv X pins σ H2 s2) (T:Turn X.prog X.w X.K tg J fp it tn) (st2:tn 0 s2.heap) (f2:∀b∈fp,FpOk X pins H2 b)
  (q:∀D,H2 D=none->∃W:Nat->Nat->L2.St->Hp->Prop,(∃m,W 0 m (Sb js σ) (upd H2 D (.lst [])))/\
   ∀i m σc Hc,W i m σc Hc->(J.stop i Hc/\QD D Hc)\/(J.go i Hc/\∀x H',J.yld i Hc x H'->g x σc H' fun σ2 H2=>tc σ2 H2 fun b H3=>if b=true then te σ2 H3 fun y H4=>∃acc,H4 D=some (.lst acc)/\acc.length<sizeLine/\
    ∃m',m'<m/\W (i+1) m' σ2 (upd H4 D (.lst (acc++[y]))) else ∃m',m'<m/\W (i+1) m' σ2 H3))
  (back:∀(D C:Uc) (Hc:Hp) (s4:Ub),(∃m,s4.heap.Ns C m)->Inv X pins σ Hc s4->Hc C=none->C≠X.env.locals->X.s₀⁻¹<=C->(∀x c,X.env.cells.lookup x=some c->c≠C)->(∀p∈X.pn++pins,p.1≠C)->QD D Hc->R (.ref D) C (.ok .next) s4):
  ⇑X (newList []) (fun acc s3=>⇑X (newFunctionEnv scope X.env.globals cl [] X.env.qual none .none (some X.env)) (fun cenv s4=>
   codeAny (model X.prog X.w) X.A (.compStart (.ListComp elt [⟨tg,iter,[c],0⟩] scope pos) 0 (.ref it) acc {cenv with scope:=relabel scope X.env}) (R acc cenv.locals) s4) E s3) E s2:=by
 refine Ht (Ou ?_)
 dsimp only
 have I3:Inv X pins σ (upd H2 s2⁻¹ (.lst [])) {s2 with heap:=s2.heap.push {cls:= .type "list",data:= .seq ([]:LW).toArray}}:=I2.lnew (its:=[]) (t':=s2.toks) .nil (nl _)
 let⟨W,⟨m0,w0⟩,turn⟩:=q s2⁻¹ I2.fresh
 have hob:=T.obj 0 _ st2
 have f3:∀b∈fp,FpOk X pins (upd H2 s2⁻¹ (.lst [])) b:=fun b hb=>by
  let⟨o,e,_⟩:=hob b hb
  show⟨by rw[Z6 (nk (Aj e))];show(f2 b hb).1,(f2 b hb).2⟩
 generalize hS3:(s2.heap.push {cls:= .type "list",data:= .seq ([]:LW).toArray}:Uf)=h3 at *
 have k23:∀b o,s2.heap.get? b=some o->h3.get? b=some o:=fun b o e=>by rw[<-hS3];show Ah _ e
 have hlt:∀b∈fp,b<h3.objs.size:=fun b hb=>by
  let⟨o,e,_⟩:=hob b hb
  show Aj (k23 b o e)
 have bc:=Og S.nd I3 {cls:= .type "dict",data:= .dict #[]} c1 c2
 have hns:(pushCells (h3.push {cls:= .type "dict",data:= .dict #[]}) scope.names).Ns h3.objs.size (fun _=>none):=(Heap.Ns.new h3 (.type "dict")).keeps (pushCells_keeps _ _)
 have k31:∀b o,h3.get? b=some o->(pushCells (h3.push {cls:= .type "dict",data:= .dict #[]}) scope.names).get? b=some o:=fun b o e=>pushCells_keeps _ _ b o (Ah _ e)
 dsimp only at bc
 generalize cellsFrom (h3.objs.size+1) scope.names cl=cl' at bc ⊢
 generalize pushCells (h3.push {cls:= .type "dict",data:= .dict #[]}) scope.names=h1 at bc hns k31 ⊢
 have I4:=O8 (tk:=s2.toks) S I3 bc f3 hlt hns k31
 have st4:tn 0 h1:=T.keep 0 _ h1 st2 fun b hb o e=>k31 b o (k23 b o e)
 have nofs:∀b∈fp,b∉(cxC X N' scope cl' h3.objs.size fp pins {s2 with heap:=h3} (upd H2 s2⁻¹ (.lst []))).fs:=I4.ok.exfs
 have stat:∀{H':Hp},(∀b∈fp,H' b=none)->∀b∈fp,FpOk (cxC X N' scope cl' h3.objs.size fp pins {s2 with heap:=h3} (upd H2 s2⁻¹ (.lst []))) [] H' b:=fun{H'} hn b hb=>
  ⟨hn b hb,nk (hlt b hb),nofs b hb,.inl hb,fun x c e=>(bc.each x c e).elim (fun z=>(f3 b hb).2.2.2.2.1 x c z) (fun z q=>absurd z.1 (Nat.lt_asymm (by rw[q];show hlt b hb))),fun p hp=>(f3 b hb).2.2.2.2.2 p (by simpa[cxC] using hp)⟩
 have loop:codeAny (model X.prog X.w) X.A (.compLoop (.ListComp elt [⟨tg,iter,[c],0⟩] scope pos) 0 (.ref it) (.ref s2⁻¹) (compEnvC scope cl' h3.objs.size X.env))
   (R (.ref s2⁻¹) h3.objs.size) {s2 with heap:=h1,toks:=s2.toks}:=by
  refine Zd0 (fun n s'=>∃i σc Hc,Inv (cxC X N' scope cl' h3.objs.size fp pins {s2 with heap:=h3} (upd H2 s2⁻¹ (.lst []))) [] σc Hc s'/\tn i s'.heap/\(∀b∈fp,Hc b=none)/\W i n σc Hc) ?_ m0
   ⟨0,_,_,I4,st4,fun b hb=>(f3 b hb).1,w0⟩
  rintro n z ⟨i,σc,Hc,Iz,stz,frz,wz⟩
  rcases turn i n σc Hc wz with⟨stop,qd⟩ | ⟨go,step⟩
  .refine thn (T.done (cxC X N' scope cl' h3.objs.size fp pins {s2 with heap:=h3} (upd H2 s2⁻¹ (.lst []))) rfl rfl rfl hc i [] z σc Hc noE Iz (stat frz) stz stop) fun r s4 zz47=>?_
   let⟨hr,I5⟩:=zz47
   subst hr
   have J5:Inv X pins σ Hc s4:=I3.call' (s':=s4) I5.os I5.base I5.hok I5.bare fun b hb=>⟨(f3 b hb).2.2.2.1,(f3 b hb).2.1,(f3 b hb).2.2.2.2.1,(f3 b hb).2.2.2.2.2⟩
   let⟨m,hm,_⟩:=I5.loc
   refine back _ _ Hc s4 ⟨m,hm⟩ J5 I5.free (nq I3.lt) (nj I3.ok.above (ny I3.lt)) (fun x c e z=>?_) (fun p hp z=>?_) qd
   .let⟨v,q⟩:=I3.cell x c e
    show absurd q.lt (by rw[z];show nu _)
   .exact absurd (Aj (I3.pin p hp).1) (by rw[z];show nu _)
  .refine thn (T.item (cxC X N' scope cl' h3.objs.size fp pins {s2 with heap:=h3} (upd H2 s2⁻¹ (.lst []))) rfl rfl rfl hc i [] z σc Hc noE Iz (stat frz) stz go) fun r s4 zz48=>?_
   let⟨u,hr,h4⟩:=zz48
   subst hr
   refine thn h4 fun _ s5 zz49=>?_
   let⟨x,H5,I5,r5,y5,st5,fr5⟩:=zz49
   have I5':=I5.pinned (stat fr5) (T.obj _ _ st5)
   refine thn (hg _ _ _ _ _ _ _ s5 σc H5 x u _ I5' r5 (step x H5 y5)) fun _ s6 zz50=>?_
   let⟨σ6,H6,I6,q6⟩:=zz50
   refine thn (hq _ _ _ _ _ _ _ s6 σ6 H6 _ I6 q6) fun ok s6' zz51=>?_
   let⟨H6',I6',q6'⟩:=zz51
   cases ok with
   | false=>
    rw[ng Bf9] at q6' ⊢
    let⟨m',hm,w7⟩:=q6'
    refine⟨m',hm,i+1,σ6,_,I6'.unpinned,T.keep _ _ _ st5 fun b hb o e=>(I6'.pin (b,o) (Ay _ (Ay _ (Yk hb e)))).1,fun b hb=>?_,w7⟩
    let⟨o,e,d⟩:=T.obj _ _ st5 b hb
    show(I6'.pin (b,o) (Ay _ (Ay _ (Yk hb e)))).2.1
   | true=>
   rw[nh rfl] at q6' ⊢
   refine thn (he _ _ _ _ _ _ _ s6' σ6 H6' _ I6' q6') fun v s7 zz52=>?_
   let⟨y,H7,I7,r7,acc,hD,hlen,m',hm,w7⟩:=zz52
   refine thn (Pb _ s7 σ6 H7 (.ref s2⁻¹) [y] (.ref s2⁻¹) [v] (fun _ H8=>H8=upd H7 s2⁻¹ (.lst (acc++[y]))) I7 rfl (.cons r7 .nil) ⟨_,acc,y,rfl,rfl,hD,hlen,rfl⟩) fun _ s8 zz53=>?_
   let⟨_,H8,I8,_,e8⟩:=zz53
   subst e8
   refine⟨m',hm,i+1,σ6,_,I8.unpinned,T.keep _ _ _ st5 fun b hb o e=>(I8.pin (b,o) (Ay _ (Ay _ (Yk hb e)))).1,fun b hb=>?_,w7⟩
   let⟨o,e,d⟩:=T.obj _ _ st5 b hb
   show(I8.pin (b,o) (Ay _ (Ay _ (Yk hb e)))).2.1
 show codeAny_compStart_list loop (T.self _ 0 _ _ _ st4 loop)
def Zx7(P:X.calm=true)(G:Tz X.env.scope X.N N' js scope=true)(hi:PI X tg iter wi)(M:∀d C a pins s H,PG (cxC X N' scope d C a pins s H) tg g)(F:∀d C a pins s H,PT (cxC X N' scope d C a pins s H) c tc)(O:∀d C a pins s H,PE (cxC X N' scope d C a pins s H) elt te)
  (E:∀x,foldedSetIterable iter X.env x=pure x:=by intro _;rfl):PE X (.ListComp elt [⟨tg,iter,[c],0⟩] scope pos) (Y47 js wi g tc te):=by
 intro pins s p H Q I h
 have S:=CompScope.of G
 let⟨d,j,c1,c2⟩:=Wq (scope:=scope) (env:=X.env) fun n K=>I.ok.has n (S.free n K)
 rw[eval_ListComp]
 refine Lf (use:=none) rfl E j S.kind S.loc (thn (hi pins s p H _ I h) fun v s1 W=>thn W fun B s2 V=>?_)
 let⟨it,a,tn,J,H2,e,I2,T,f,Z,u⟩:=V
 subst e
 refine Qy (QD:=fun D l=>Q (.ref D) l) (R:=fun k C=>compPost (model X.prog X.w) X.A X.xe none (EP X pins p Q) k C) P S c1 c2 M F O I2 T f Z u ?_
 rintro D C l r ⟨m,L⟩ J4 Y z q cC y t
 refine⟨m,L,fun h' i=>⟨.ref D,l,?_,rfl,t⟩⟩
 show J4.turned (t':=r.toks) (fun b o U e=>(i.2 b U).trans e) Y z (.inr q) cC y
def Yn7(i:Nat)(js:List (Option Nat))(wi:TI)(g:TG)(tc:TT)(te:TE):TS:=fun D a H=>Y47 js wi g tc te a H fun v b=>D.nx (a.set i (some v)) b
def Zy1{i:Nat}{x:Str}{f d:Pos}(hc:X.calm=true)(ho:Tz X.env.scope X.N N' js scope=true)(hN:X.N.Nodup)(hx:X.N[i]?=some x)(L:X.env.scope.names.lookup x=some .local)(hi:PI X tg iter wi)
  (hg:∀k C j pins s H,PG (cxC X N' scope k C j pins s H) tg g) (y:∀k C j pins s H,PT (cxC X N' scope k C j pins s H) c tc) (he:∀k C j pins s H,PE (cxC X N' scope k C j pins s H) elt te)
  (t:swapsWith (.ListComp elt [⟨tg,iter,[c],0⟩] scope pos) (some (.Name x f)) d.line X.env=pure true)
  (hs:∀x,foldedSetIterable iter X.env x=pure x:=by intro _;rfl):PS X (.Assign [.Name x f] (.ListComp elt [⟨tg,iter,[c],0⟩] scope pos) d) (Yn7 i js wi g tc te):=by
 intro pins s q H D I h
 have S:=CompScope.of ho
 let⟨k,B,c1,c2⟩:=Wq (scope:=scope) (env:=X.env) fun n hn=>I.ok.has n (S.free n hn)
 rw[exec_Assign_Name_used _ _ _ _ t]
 refine Aa (Kb (Aa ?_))
 change wpAny _ _ (do let _ <-comprehension (.ListComp elt [⟨tg,iter,[c],0⟩] scope pos) scope X.env _ (newList []) false (eval iter X.env) (some (assign (.Name x f) X.env))) _ _ s
 refine Aa (Dy (Lf (use:=some (assign (.Name x f) X.env)) (Q:=fun _ p=>SP X pins D .next p) rfl hs B S.kind S.loc (thn (hi pins s q H _ I h) fun v s1 h1=>thn h1 fun z0 s2 h2=>?_)) (fun _ p y=>Ai (Ai y)) fun _ _ e=>e)
 let⟨it,j,tn,J,H2,e,I2,T,r,f2,Y⟩:=h2
 subst e
 refine Qy (QD:=fun l G=>D.nx (q.set i (↑l)) G) (R:=fun F C=>compPost (model X.prog X.w) X.A X.xe (some (assign (.Name x f) X.env)) (fun _ p=>SP X pins D .next p) F C) hc S c1 c2 hg y he I2 T r f2 Y ?_
 rintro l C G V ⟨m,hm⟩ J4 fC K P M Z W
 change wpAny _ _ (assign (.Name x f) X.env (.ref l)) _ _ V
 refine wpAny_assign_Name (Qc J4 hN hx (.inl L) (v:= .ref l) rfl (fun U J5 zz54=>?_) (.inr L))
 let⟨a,O,ha⟩:=zz54
 have E:C≠a:=by
  rcases ha with z | z
  .rw[z];show K
  .exact(M x a z).symm
 refine⟨m,hm.sameBut O E,fun h' u=>⟨q.set i (↑l),G,?_,W⟩⟩
 show J5.turned (t':=U.toks) (fun b o hb e=>(u.2 b hb).trans e) fC K (.inr P) M Z
end
end L3
namespace L3
open PySem
def ExAt(h:Uf)(e:Uc)(b:Ua)(f:Option Uc)(d:Ua):Prop:=∃a c,h.get? e=some a/\(a.cls=b/\a.dict=f)/\a.data= .fields c/\c[1]?=some d
def TbAt(h:Uf)(T:Uc)(c:Ua):Prop:=∃b a,h.get? T=some b/\b.data= .fields a/\a[3]?=some c
def ExAt.at{a:Ua}{c:Option Uc}{b:Ua}(x:ExAt h e a c b)(k:∀o,h.get? e=some o->h'.get? e=some o):ExAt h' e a c b:=
 let ⟨f,d,g,r⟩:=x;⟨f,d,k _ g,r⟩
def Pn(o:Obj)(f:Array Ua->Array Ua):(o.mapFields f).dict=o.dict:=by
 let⟨c,d,a,b⟩:=o;cases a<;>rfl
structure Flown(fs xs:List Uc)(h h':Uf):Prop where
 keep:∀b o,h.get? b=some o->b∉fs->b∉xs->h'.get? b=some o
 slot:∀b o,h.get? b=some o->b∈fs->b∉xs->∃sl,h'.get? b=some {o with slots:=sl}
 there:∀b o,h.get? b=some o->∃o',h'.get? b=some o'
def Flown.trans{h l k:Uf}(a:Flown fs xs h l)(b:Flown fs ys l k)(j:∀z∈ys,z∈xs\/h.get? z=none):Flown fs xs h k where
 keep:=fun c o e f d=>b.keep c o (a.keep c o e f d) f fun z=>(j c z).elim d fun q=>by rw[q] at e;cases e
 slot:=fun c o e f d=>by
  let⟨p,i⟩:=a.slot c o e f d
  let⟨g,n⟩:=b.slot c _ i f fun z=>(j c z).elim d fun q=>by rw[q] at e;cases e
  show⟨g,n⟩
 there:=fun c o e=>by let⟨m,i⟩:=a.there c o e;show b.there c m i
section
variable{M:Model}{A:Around}{E:VSP}{s:Ub}{base:Uf}{env:Env}{outer:List Env}{L e:Uc}{cls:Ua}{dd:Option Uc}{tb:Ua}
abbrev frsE(l:List Env):List Uc:=l.filterMap (·.frame)
def Yb8(g:s.heap.FunFrames base (env::outer))(d:ExAt s.heap e cls dd tb):e∉frsE (env::outer):=fun f=>by
 let⟨j,c,h,_,i,_⟩:=d
 let⟨_,o,a,b⟩:=g.mem f
 rw[h] at a;injection a with a;subst a;show b c i
def Fx{g:Bool}(w:A.frames=some (env::outer))(C:s.heap.FunFrames base (env::outer))(G:env.frame=some L)(l:ExAt s.heap e cls dd tb)
  (h:∀h' T,s⁻¹<=T->T≠e->ExAt h' e cls dd (.ref T)->TbAt h' T (rawInt L)->Flown (frsE (env::outer)) [e] s.heap h'->Q () {s with heap:=h'}):
  wpAny M A (do let a <-frameOf env;let u <-entryPlaceOf L g;let b <-EntryCells.newEntry j a .none (rawInt L) .none u;setField (.ref e) 1 b) Q E s:=by
 have r:=Yb8 C l
 let⟨F,D,H,⟨I,x⟩,y,i⟩:=l
 have m:1<D.size:=(Array.getElem?_eq_some_iff.mp i).1
 refine Aa (wpAny_frameOf_fun w C G fun i d=>?_)
 refine Aa (wpAny_entryPlaceOf fun u n=>?_)
 unfold EntryCells.newEntry newFields
 refine Aa (Ht ?_ (n.sizeOk5 _ _ _ _ _))
 generalize p:({cls:= .type "traceback",dict:=none,data:= .fields ([j,.ref L,.none,rawInt L,.none]++(if u.isEmpty then Ds 6 Value.none else u)).toArray}:Obj)=ob
 have f:i.get? e=some F:=(d.2.1 e r).trans H
 have v:ob.isFreed=false:=by rw[<-p];rfl
 refine Me (Ah ob f) y m (h _ i.objs.size ?_ (nq (Aj f)) ?_ ?_ ?_)
 .exact Nat.le_of_eq d.1.symm
 .have t:=Im y (·.setIfInBounds 1 (Value.ref i.objs.size))
  refine⟨_,_,Dv _ (Ah ob f) (Kr t),⟨(Obj.cls_mapFields _ _).trans I,(Pn _ _).trans x⟩,t,by simp[m]⟩
 .refine⟨ob,_,(Dk _ _ (nk (Aj f))).trans (Aq i v),by rw[<-p],?_⟩
  first | (simp;done) | (rcases n with rfl | ⟨_,_,_,_,_,_,_,rfl⟩<;>simp)
 .have c:∀b o,b≠e->i.get? b=some o->((i.push ob).update e (Kt (·.setIfInBounds 1 (Value.ref i.objs.size)))).get? b=some o:=fun b o k q=>by
   rw[Dk _ _ (Au k)]
   show Ah _ q
  refine⟨fun b o q k l=>c b o ↥l ((d.2.1 b k).trans q),fun b o q k l=>?_,fun b o q=>?_⟩
  .let⟨B,z⟩:=d.2.2 b o q
   show⟨B,c b _ ↥l z⟩
  .let⟨B,z⟩:=d.2.2 b o q
   by_cases k:b=e
   .subst k
    show⟨_,Dv _ (Ah ob f) (Kr (Im y _))⟩
   .exact⟨_,c b _ k z⟩
def Zb5(a:A.frames=some (env::outer))(d:s.heap.FunFrames base (env::outer))(c:env.frame=some L)(b:ExAt s.heap e cls dd .none)
  (h:∀h' T,s⁻¹<=T->T≠e->ExAt h' e cls dd (.ref T)->TbAt h' T (rawInt L)->Flown (frsE (env::outer)) [e] s.heap h'->Q () {s with heap:=h'}):
  wpAny M A (noteFrame (.ref e) env) Q E s:=by
 let⟨k,j,f,l,g,i⟩:=id b
 unfold noteFrame
 simp only[c]
 refine Aa (Fd f g i ?_)
 rw[ng 'd']
 show Fx a d c b h
def Fl{c:Uc}(n:A.frames=some (env::outer))(H:s.heap.FunFrames base (env::outer))(u:env.frame=some L)(g:ExAt s.heap e cls dd (.ref c))(G:TbAt s.heap c .none)(m:c≠e)
  (h:∀h' T,s⁻¹<=T->T≠e->ExAt h' e cls dd (.ref T)->TbAt h' T (rawInt L)->Flown (frsE (env::outer)) [e,c] s.heap h'->Q () {s with heap:=h'}):
  wpAny M A (noteFrame (.ref e) env) Q E s:=by
 let⟨N,r,I,O,J,K⟩:=id g
 let⟨F,D,l,f,v⟩:=id G
 unfold noteFrame
 simp only[u]
 refine Aa (Fd I J K ?_)
 rw[nh (show(Value.ref c !=Value.none)=true from by simp)]
 refine Aa (Fd l f v ?_)
 rw[ng (show ¬((Value.none==rawInt L)=true) from by simp[rawInt])]
 refine Aa (Me l f (Array.getElem?_eq_some_iff.mp v).1 ?_)
 have a:∀b,b≠c->(s.heap.update c (Kt (·.setIfInBounds 3 Value.none))).get? b=s.heap.get? b:=fun b d=>Dk _ _ (Au d)
 have i:(s.heap.update c (Kt (·.setIfInBounds 3 Value.none))).get? c=some (F.mapFields (·.setIfInBounds 3 Value.none)):=Dv _ l (Kr (Im f _))
 have j:∀b o,s.heap.get? b=some o->(∀r,o.data≠ .fields r)->b≠c:=fun b o d k q=>by
  rw[q,l] at d;injection d with d;subst d;show k D f
 have p:Flown (frsE (env::outer)) [e,c] s.heap (s.heap.update c (Kt (·.setIfInBounds 3 Value.none))):=by
  refine⟨fun b o q _ g=>(a b (by simp at g;show g.2)).trans q,fun b o q _ g=>⟨o.slots,(a b (by simp at g;show g.2)).trans q⟩,fun b o q=>?_⟩
  by_cases d:b=c
  .subst d;show⟨_,i⟩
  .exact⟨o,(a b d).trans q⟩
 refine Fx (s:={s with heap:=s.heap.update c (Kt (·.setIfInBounds 3 Value.none))}) n (H.of_keeps fun b o d k=>⟨o,(a b (j b o d k)).trans d,rfl⟩) u
  (g.at fun o q=>(a e (Au m)).trans q) fun h' T C B y x w=>h h' T ?_ B y x (p.trans w fun z t=> .inl (by simp at t;simp[t]))
 show nj (Nat.le_of_eq (Heap.size_update ..).symm) C
def S9{c:Uc}{z:Ua}{k:Option Uc}(m:ExAt s.heap e cls dd (.ref c))(u:TbAt s.heap c z)(l:c≠e)
  (h:∀h',ExAt h' e cls dd (.ref c)->TbAt h' c (k.elim Value.none fun f=>rawInt f)->(∀b o,b≠c->s.heap.get? b=some o->h'.get? b=some o)->(∀b o,s.heap.get? b=some o->∃t,h'.get? b=some t)->Q () {s with heap:=h'}):
  wpAny M A (setFlight (.ref e) k) Q E s:=by
 let⟨C,B,v,D,w,y⟩:=id m
 let⟨r,p,n,i,x⟩:=id u
 have g:3<p.size:=(Array.getElem?_eq_some_iff.mp x).1
 have a:∀b,b≠c->(s.heap.update c (Kt (·.setIfInBounds 3 (k.elim Value.none fun f=>rawInt f)))).get? b=s.heap.get? b:=fun b j=>Dk _ _ (Au j)
 have d:(s.heap.update c (Kt (·.setIfInBounds 3 (k.elim Value.none fun f=>rawInt f)))).get? c=some (r.mapFields (·.setIfInBounds 3 (k.elim Value.none fun f=>rawInt f))):=Dv _ n (Kr (Im i _))
 unfold setFlight
 refine Aa (Fd v w y ?_)
 rw[nh (show(Value.ref c !=Value.none)=true from by simp)]
 refine Me n i g (h _ (m.at fun o q=>(a e (Au l)).trans q) ⟨_,_,d,Im i _,by simp[g]⟩ (fun b o j q=>(a b j).trans q) fun b o q=>?_)
 by_cases j:b=c
 .subst j;show⟨_,d⟩
 .exact⟨o,(a b j).trans q⟩
end
end L3
namespace L3
open PySem PySem.W
abbrev E3(a:LW):Obj:={cls:= .type "tuple",data:= .seq a.toArray}
abbrev Pm(C t:Uc):Obj:={cls:= .ref C,data:= .fields #[.ref t,.none,.none,.none,.bool false,.none]}
section
variable{prog:Ud}{w:Ue}{A:Around}{h:Uf}{g:Array GenState}{d:Drawn}{t:Nat}{os:OsState}
variable{nm q:Str}{C N f:Uc}{bs bm:LW}{hdct:Bool}{sn:LS}{sub:LW}{ab:Bool}{col:Option Bool}{dd:Option Uc}{k0 k1 k2 k3 k5:Option Ua}{Bn newId inN:String}{bmN:LW}
structure ExcCls(h:Uf)(C:Uc)(nm q:Str)(N:Uc)(bs bm:LW)(hdct:Bool)(sn:LS)(sub:LW)(ab:Bool)(col:Option Bool)(dd:Option Uc)(k0 k1 k2 k3 k5:Option Ua)(Bn newId:String):Prop where
 obj:h.get? C=some (excClassObj nm q C N bs bm hdct sn sub ab col dd k0 k1 k2 k3 k5 newId)
 hB:(Value.ref C::bm).contains (.type Bn)=true
 hA:(Value.ref C::bm).contains (.type "AttributeError")=false
 hN:(Value.ref C::bm).contains (.type "NameError")=false
 hE:(Value.ref C::bm).contains (.type "BaseException")=true
def Zn1{E:VSP}(c:ExcBaseFacts Bn newId inN bmN)(x:ExcCls h C nm q N bs bm hdct sn sub ab col dd k0 k1 k2 k3 k5 Bn newId){a:LW}(i:Q () ⟨h,g,d,t,os⟩):
  wpAny M A (checkBuiltinCall newId ⟨.ref C::a,[]⟩) Q E ⟨h,g,d,t,os⟩:=by
 have b:=x.obj
 have j:=x.hB
 have e:=c.noStar
 simp only[checkBuiltinCall,c.newKind,c.newSplit,c.newRow]
 repeat (first
  | refine Iy b ?_
  |(refine Lj b ?_;rw[j])
  | refine wpAny_staticBase_exc b ?_
  | refine wpAny_madeBy_exc b ?_
  | simp only[bne_self_eq_false,Bool.false_eq_true,if_false]
  | wp_step)
 show i
def Yd5(b:ExcBaseFacts Bn newId inN bmN)(x:ExcCls h C nm q N bs bm hdct sn sub ab col dd k0 k1 k2 k3 k5 Bn newId){a:LW}
  (n:R (.ok (.ret (.ref (h.objs.size+1)))) ⟨(h.push (E3 a)).push (Pm C h.objs.size),g,d,t,os⟩) (c:a.length<=sizeLine):
  codeAny (model prog w) A (.builtin newId ⟨.ref C::a,[]⟩) R ⟨h,g,d,t,os⟩:=by
 have e:=b.ends
 let⟨l,j,k,i,_⟩:=x
 refine codeAny_builtinAt b.entry ?_
 unfold Builtin.«BaseException.__new__»
 refine wpAt_bind ?_
 change wpAt _ _ _ (stack >>=_) _ _ _
 refine wpAt_bind (wpAt_stack fun p m=>wpAt_of_wpAny ?_)
 wp_walk
 refine wpAt_of_wpAny ?_
 rw[b.owner]
 repeat (first
  | with_reducible refine wpAny_madeHere_exc b.canon l ?_
  | with_reducible refine Iy l ?_
  |(with_reducible refine Lj l ?_;first | rw[j] | rw[k] | rw[i])
  | wp_step)
 change R _ _
 rw[Ia]
 show n
def Yd7(e:Uc)(R:Result->Ub->Prop)(r:Result)(s':Ub):Prop:=match r with
 | .ok (.ret v)=>v= .none/\R (.ok (.ret (.ref e))) s'
 | .ok _=>False
 | .error z=>R (.error z) s'
def Zu2(p:ExcBaseFacts Bn newId inN bmN)(x:ExcCls h C nm q N bs bm hdct sn sub ab col dd k0 k1 k2 k3 k5 Bn newId){a:LW}
  (hi:Looks (model prog w) h (typeLookup (.ref C) "__init__") (↑f)) (u:∀c,Looks (model prog w) h (bindSpecial (.ref f) c) (.ref f,[c]))
  (s:codeAny (model prog w) (A.under (.builtin "type.__call__" ⟨.ref C::a,[]⟩)) (.call (.ref f) ⟨.ref (h.objs.size+1)::a,[]⟩) (Yd7 (h.objs.size+1) R) ⟨(h.push (E3 a)).push (Pm C h.objs.size),g,d,t,os⟩)
  (j:a.length<=sizeLine):codeAny (model prog w) A (.call (.ref C) ⟨a,[]⟩) R ⟨h,g,d,t,os⟩:=by
 have l:=x.obj
 have G:=tc_lookup
 have F:=tc_bind (.ref C)
 have E:(⟨h,g,d,t,os⟩:Ub).TypeIs (.ref C) "type":=⟨_,l,rfl⟩
 refine codeAny_of_tree ?_
 change wpAny _ _ (callAny (.ref C) _) _ _ _
 repeat (any_goals (first | assumption | with_reducible refine Iy l ?_ | wp_step))
 refine⟨rfl,?_⟩
 refine codeAny_call_builtin_at (Code.quiet_builtin _ 'k') entry_typeCall (wpAny_check_type_call_sub l ?_)
 repeat (first | with_reducible refine Iy l ?_ | with_reducible refine wpAny_madeBy_exc l ?_ | wp_step)
 refine codeAny_call_builtin_code (Code.quiet_builtin _ p.quiet) (Zn1 p x ?_)
 refine Yd5 p x ?_ j
 change wpAny _ _ _ _ _ _
 have k:∀b o,h.get? b=some o->((h.push (E3 a)).push (Pm C h.objs.size)).get? b=some o:=fun b o e=>Ah _ (Ah _ e)
 have n:=k _ _ l
 have i:((h.push (E3 a)).push (Pm C h.objs.size)).get? (h.objs.size+1)=some (Pm C h.objs.size):=by heap_get
 have m:(Value.ref C::bm).contains (.ref C)=true:=by simp
 have D:=hi.keeps k
 have H:=(u (.ref (h.objs.size+1))).keeps k
 have y:Looks (model prog w) ((h.push (E3 a)).push (Pm C h.objs.size)) (typeOf (.ref (h.objs.size+1))) (.ref C):=(Looks.ld i).andThen .now
 unfold isInstance
 repeat (first | with_reducible refine Iy i ?_ | (with_reducible refine Lj n ?_;rw[m]) | wp_step)
 change wpAny _ (A.under (.builtin "type.__call__" ⟨.ref C::a,[]⟩)) (isSubtype (.ref C) (.ref C)) _ _ ⟨(h.push (E3 a)).push (Pm C h.objs.size),g,d,t,os⟩
 refine Lj n ?_
 rw[m]
 unfold callSpecial? specialOf
 repeat (first | simp only[Bool.not_true,Bool.false_eq_true,if_false] | with_reducible refine Mc ?_ | lk)
 refine Ki s fun r B z=>?_
 rcases r with e | (v | _ | _ | _)<;>first | show z | show z.elim | skip
 let⟨rfl,z⟩:=z
 show Ai (Ai z)
end
end L3
namespace L3
open PySem PySem.W PySem.Calls PyProof.Rows Builtin Builtin.ObjectAttr
def Zd3(a:Ua):refuseLoop a "__setattr__" [.type "ValueError",.type "Exception",.type "BaseException",.type "object"]=pure ():=by
 kernel_rfl
structure ExcSet(K:Frag)(C:Uc)(name:Str):Prop where
 cls:∃cd own,clsIn K C=some cd/\cd.hasDict=true/\cd.mro=own++[.type "ValueError",.type "Exception",.type "BaseException",.type "object"]/\∀v∈own,∃a,v=Value.ref a
 no:findIn K (.ref C) name=some none
 set:findIn K (.ref C) "__setattr__"=some (some (.builtin "object.__setattr__"))
def O6(b:Ua):∀own:LW,(∀v∈own,∃a,v=Value.ref a)->refuseLoop b "__setattr__" (own++[.type "ValueError",.type "Exception",.type "BaseException",.type "object"])=pure ()
 | [],_=>Zd3 b
 | v::r,h=>by
  let⟨a,rfl⟩:=h v Bs
  rw[Hx,refuseLoop_ref]
  show O6 b r fun u c=>h u (Av _ c)
section
variable{prog:Ud}{w:Ue}{A:Around}{K:Frag}{C e:Uc}{s:Ub}{name:Str}{R:Result->Ub->Prop}
def Zm0{v:Ua}(X:K.In s.heap)(S:ExcSet K C name)(k:s.heap.get? e=some j)(G:j.cls= .ref C)(p:j.dict=none)(L:j.data= .fields vs)
  (h:∀h' u,h'.get? e=some {j with dict:=some s⁻¹}->h'.Ns1 s⁻¹ (fun x=>if x=name then some v else none)->(∀b o,b≠e->s.heap.get? b=some o->h'.get? b=some o)->R (.ok (.ret .none)) {s with heap:=h',toks:=u}):
  codeAny (model prog w) A (.call (.builtin "object.__setattr__") ⟨[.ref e,.str name tk,v],[]⟩) R s:=by
 let⟨⟨I,l,i,E,g,m⟩,z,_⟩:=S
 have r:=PySem.F.store_object
 have t:Looks (model prog w) s.heap (typeOf (.ref e)) (.ref C):=by rw[<-G];show(Looks.ld k).andThen .now
 have N:I.mro.isEmpty=false:=by rw[g];cases l<;>rfl
 have O:I.mro.contains (.type "object")=true:=by rw[g];simp
 have y:Looks (model prog w) s.heap (isInstance (.ref e) (.type "object")) true:=t.andThen (looks_mroIn X (by unfold mroIn;rw[i,Option.bind_some,ng (by rw[N];decide),O]))
 refine codeAny_call_builtin r.slot.plain r.entry (@check_slot (model prog w) _ _ s "object.__setattr__" "object" "__setattr__" (.ref e) [.str name tk,v] [] _ r.kind r.split y (r.args (.ref e) (.str name tk) v) ?_)
 have P:Looks (model prog w) s.heap (mroOf (.ref C)) I.mro:=(looks_clsIn X i).andThen .now
 rw[osa_eq,refuse_eq]
 refine Aa (Aa (t.here (Aa (P.here ?_))))
 rw[g,O6 _ l m]
 refine Ai (Aa (t.here (Aa ((looks_findIn X z).here (Aa (Ai ?_))))))
 change wpAny _ _ (storeInOwnDict (.ref e) (.ref C) (.str name tk) name v false) _ _ _
 let⟨c,T,V,U⟩:=j
 dsimp only at G p L
 subst G p L
 refine Aa (Ai (Aa (Aa (wpAny_loadPart k (Aa ((looks_clsIn X i).here ?_))))))
 rw[E]
 change wpAny _ _ (alloc {cls:=Value.type "dict",data:=Mi #[]} >>=fun d=>update e (fun o=>{o with dict:=some d}) >>=fun _=>dictMade (.ref C) e d) _ _ s
 refine Aa (wpAny_alloc (Aa (wpAny_update (Ah _ k) ?_)))
 refine Ai (a:=some s⁻¹) ?_
 refine Aa (Ai (Aa ?_))
 have D:((s.heap.push {cls:=Value.type "dict",data:=Mi #[]}).update e fun o=>{o with dict:=some s⁻¹}).get? s⁻¹=some {cls:=Value.type "dict",data:=Mi #[]}:=
  (Dk _ _ (nk (Aj k))).trans (Aq _ rfl)
 have M:∀f:Obj->Obj,(f {cls:=Value.type "dict",data:=Mi #[]}).isFreed=false->(((s.heap.push {cls:=Value.type "dict",data:=Mi #[]}).update e fun o=>{o with dict:=some s⁻¹}).update s⁻¹ f).get? s⁻¹=
   some (f {cls:=Value.type "dict",data:=Mi #[]}):=fun f Q=>Dv f D Q
 unfold nsSet
 refine Aa (Aa (wpAny_askSetting (Ai (Aa (wpAny_mkText (Aa (wpAny_loadPart D ?_)))))))
 dsimp only
 rw[show aRefKeyMayBeTheName name #[]=false from rfl,ng Bf9]
 refine wpAny_updatePart D ?_
 refine Aa (wpAny_lookBehind (M _ rfl) ?_ ?_)
 .exact pastItsLine_dict (by change 1<=_;decide)
 refine Ai ?_
 refine h _ _ ?_ ?_ ?_
 .rw[Dk _ _ (nq (Aj k))]
  show Dv _ (Ah _ k) rfl
 .refine⟨_,_,_,M _ rfl,rfl,?_,?_,?_⟩
  .change StrKeys #[(⟨_,.str name _,v⟩:DictEntry)]
   intro x J
   simp at J
   subst J
   show⟨name,_,rfl⟩
  .change UniqKeys #[(⟨_,.str name _,v⟩:DictEntry)]
   simp[UniqKeys]
  .intro n
   change nsFind #[(⟨_,.str name _,v⟩:DictEntry)] n=_
   by_cases B:n=name
   .subst B
    simp[nsFind,findBy,Value.isStr]
   .have H:(name==n)=false:=by simpa using Au B
    simp[nsFind,findBy,Value.isStr,H,B]
 .intro b o H q
  rw[Dk _ _ (nq (Aj q)),Dk _ _ (Au H)]
  show Ah _ q
def Cp{v:Ua}{f:Obj}{E:VSP}(X:K.In s.heap)(S:ExcSet K C name)(i:s.heap.get? e=some f)(k:f.cls= .ref C)(g:f.dict=none)(j:f.data= .fields vs)
  (h:∀h' d,h'.get? e=some {f with dict:=some s⁻¹}->h'.Ns1 s⁻¹ (fun x=>if x=name then some v else none)->(∀b o,b≠e->s.heap.get? b=some o->h'.get? b=some o)->Q () {s with heap:=h',toks:=d}):
  wpAny (model prog w) A (setAttr (.ref e) name v) Q E s:=by
 have J:InstAt s.heap e f C none:=⟨i,k,by unfold notCls;rw[j],by rw[g];trivial⟩
 show set_plain X J S.set (Zm0 (s:={s with toks:=s.toks+1}) X S i k g j fun h' d a b c=>h h' d a b c)
structure ExcGet(K:Frag)(C:Uc)(name:Str):Prop where
 cls:∃cd,clsIn K C=some cd/\cd.hasDict=true
 no:findIn K (.ref C) name=some none
 ga:findIn K (.ref C) "__getattribute__"=some (some (.builtin "BaseException.__getattribute__"))
 gh:findIn K (.ref C) "__getattr__"=some none
 base:mroIn K C (.type "BaseException")=some true
def Yd8(a:Ua):bindSpecial (.builtin "BaseException.__getattribute__") a=pure (.builtin "BaseException.__getattribute__",[a]):=by kernel_rfl
def Yi1:builtinKind "BaseException.__getattribute__"=some .slot:='k'
def Zv9:splitId "BaseException.__getattribute__"=some ("BaseException","__getattribute__"):='k'
def Y34:plainId "BaseException.__getattribute__"=true:='k'
def Y82(a b:Ua):argsOk "BaseException.__getattribute__" ⟨[a,b],[]⟩:=by unfold argsOk;kernel_rfl
end
end L3
namespace L3
open PySem PySem.Spec PyProof.Rows L2
def XO(e:Uc)(b:Ua)(f:Option Uc):HO:= .ext fun h=>∃a c d,h.get? e=some a/\(a.cls=b/\a.dict=f)/\a.data= .fields c/\c[1]?=some d
def XO.ok{P:Ud}{H:Hp}{c:Ua}{d:Ua}(x:ExAt h e c j d):Yc P w H h e (XO e c j):=by
 let⟨f,g,i,p,o,n⟩:=x
 show⟨⟨f,g,d,i,p,o,n⟩,⟨f,i⟩,fun a b zz55 k=>by let⟨f,g,d,m,l⟩:=zz55;show⟨f,g,d,k _ m,l⟩⟩
def XO.at{P:Ud}{H:Hp}{a:Ua}{c:Option Uc}(x:Yc P w H h e (XO e a c)):∃b,ExAt h e a c b:=by
 let⟨⟨k,d,b,j,i,g,f⟩,_⟩:=x
 show⟨b,k,d,j,i,g,f⟩
def CX1(P:Ud)(w:Ue):CXT:=fun a H s E e c=>∃(d T:Uc) (b:Ua) (g:Option Uc) (f:Hp),e= .ref d/\c.os=s.os/\AllBare c.gens/\Un (frs a) [] H f s.heap c.heap/\HOk P w f c.heap/\
 (s⁻¹<=d/\s⁻¹<=T)/\f d=some (XO d b g)/\(f T=none/\T≠d)/\ExAt c.heap d b g (.ref T)/\TbAt c.heap T .none/\E b g f
structure Leaves(X:Cx)(E:XK):Prop where
 stk:X.stack=X.env::X.outer
 fr:X.env.frame=some X.env.locals
 ex:X.ex=[]
 xe:∀e s',⇑X (leaving X.env e) (fun _ s''=>CX1 X.prog X.w X.outer X.H₀ X.s₀ E e s'') (fun e' s''=>CX1 X.prog X.w X.outer X.H₀ X.s₀ E e' s'') s'->X.xe e s'
def E7{P:Ud}{K:Ab}{a:Str}{f:Uc}{b:Ua}{s:Ub}{H:Hp}{E:XK}:
  Leaves (cxOf (CX1 P w) P w K mg base N a scope f b A outer s H E) E:=⟨rfl,rfl,rfl,fun _ _ h=>h⟩
def Yv6{P:Ud}{H:Hp}{a:Uc}(x:Yc P w H h a o):∃u,h.get? a=some u:=by
 cases o with
 | lst c=>let⟨_,_,_,_,e⟩:=x;show⟨_,e⟩
 | tup c=>let⟨_,_,_,⟨_,e,_⟩⟩:=x;show⟨_,e⟩
 | dK b=>let⟨_,_,_,_,o,_,_,e,_⟩:=x;show⟨_,e⟩
 | dT b=>let⟨_,_,_,_,o,_,_,e,_⟩:=x;show⟨_,e⟩
 | set S n=>let⟨o,_,_,_,e,_⟩:=x;show⟨_,e⟩
 | ins C m d=>let⟨_,_,_,e,_⟩:=x;show⟨_,e⟩
 | own y=>show x
 | xd d=>let⟨_,⟨_,_,_,e,_⟩,_⟩:=x;show⟨_,e⟩
 | rng k l=>let⟨_,_,_,e⟩:=x;show⟨_,e⟩
 | frz j u=>let⟨e,_⟩:=x;show⟨_,e⟩
 | tbl i=>show⟨_,x⟩
 | met f y=>show⟨_,x⟩
 | ext g=>show x.2.1
section
variable{X:Cx}{E:XK}{pins:PLO}{σ:L2.St}{H:Hp}{s:Ub}{e T:Uc}{cls:Ua}{dd:Option Uc}{xs:List Uc}{h1:Uf}{fl:Ua}
def Ff{P:Ud}{f:Ua}(g:HOk P w H h)(a:H e=some (XO e cls dd))(x:ExAt h' e cls dd f)(k:∀b u o,H b=some u->b≠e->h.get? b=some o->h'.get? b=some o):HOk P w H h':=fun b u q=>by
 by_cases d:b=e
 .subst d
  rw[a] at q
  cases q
  show XO.ok x
 .refine(g b u q).stay (fun c v i r=>?_) (fun _ z=>z) fun _ _ z=>z
  rcases i with z | z
  .rw[z] at r ⊢;show k b u v q d r
  .refine k c _ v z (fun y=>?_) r
   rw[y,a] at z
   cases z
def O4(L:Leaves X E)(I:Inv X pins σ H s)(a:∀b∈xs,(H b=none\/b=e)/\X.s₀⁻¹<=b)(Q:e∈xs)(F:H e=some (XO e cls dd))(j:s⁻¹<=T)(k:T≠e)
  (J:ExAt h1 e cls dd (.ref T)) (N:TbAt h1 T fl) (f:Flown (frsE X.stack) xs s.heap h1) (R:E cls dd H):
  wpAny M A (setFlight (.ref e) none) (fun _ p=>CX1 X.prog X.w X.outer X.H₀ X.s₀ E (.ref e) p) U {s with heap:=h1}:=by
 have G:s.heap.get? T=none:=Heap.get?_none_of_le j
 refine S9 (s:={s with heap:=h1}) J N k fun W D K x l=>?_
 have h:∀b o,s.heap.get? b=some o->b≠T:=fun b o q z=>by rw[z,G] at q;cases q
 have v:∀b o,X.s₀.heap.get? b=some o->b∉frs X.outer->b∉frsE X.stack:=fun b o q d z=>by
  rw[L.stk] at z
  have C:b∈(X.env::X.outer).filterMap (·.frame):=z
  rw[Lh,L.fr] at C
  rcases An.mp C with y | y
  .exact absurd (Aj q) (by rw[y];show Nat.not_lt.mpr I.ok.above)
  .exact d y
 have i:∀b o,X.s₀.heap.get? b=some o->b∉xs:=fun b o q z=>absurd (Aj q) (Nat.not_lt.mpr (a b z).2)
 have c:∀b:Uc,b∉X.ex:=fun b z=>by rw[L.ex] at z;cases z
 have S:X.s₀⁻¹<=T:=nj I.sz j
 refine⟨e,T,cls,dd,H,rfl,I.os,I.bare,⟨fun b o q n d _=>?_,fun b o q n d _=>?_,fun b o q n _=>I.base.free b o q n (c b),fun b o q _=>?_,I.base.tups,I.base.frzs,I.base.tbls⟩,?_,⟨(a e Q).2,S⟩,F,⟨?_,k⟩,D,K,R⟩
 .have g:=I.base.keep b o q n d (c b)
  show x b o (h b o g) (f.keep b o g (v b o q d) (i b o q))
 .let⟨V,g⟩:=I.base.slot b o q n d (c b)
  have B:b∈frsE X.stack:=by
   change b∈X.stack.filterMap (·.frame)
   rw[L.stk,Lh,L.fr]
   show Av _ d
  let⟨m,t⟩:=f.slot b _ g B (i b o q)
  show⟨m,x b _ (h b _ g) t⟩
 .let⟨P,g⟩:=I.base.there b o q (c b)
  let⟨O,t⟩:=f.there b P g
  show l b O t
 .refine Ff I.hok F D fun b u o q d r=>x b o (h b o r) (f.keep b o r (fun z=>?_) fun z=>?_)
  .have:=I.stkFree b z
   rw[q] at this;cases this
  .rcases(a b z).1 with y | y
   .rw[q] at y;cases y
   .exact d y
 .cases q:H T with
  | none=>rfl
  | some u=>
   let⟨o,z⟩:=Yv6 (I.hok T u q)
   rw[G] at z;cases z
def Yw7(L:Leaves X E):Gi (CX1 X.prog X.w) X E:=by
 rintro pins σ H s e o I ⟨v,T,cls,dd,x,u,p,a,m,c,⟨t,r⟩,g1,⟨g2,g3⟩,l,n,q⟩
 subst u
 have J:Inv X pins σ x o:=I.call' (ch:=[]) p m c a fun b z=>absurd z (by simp)
 have f:∀b,s⁻¹<=b->X.s₀⁻¹<=b:=fun b d=>nj I.sz d
 refine L.xe _ _ ?_
 unfold leaving
 refine Aa (Fl (outer:=X.outer) (base:=X.base) (L:=X.env.locals) (by rw[<-L.stk];show J.ok.frames) (by rw[<-L.stk];show J.stack) L.fr l n g3 fun h1 y k j i h g=>?_)
 refine O4 (xs:=[v,T]) L J (fun b d=>?_) (by simp) g1 k j i h (by rw[L.stk];show g) q
 rcases An.mp d with z | z
 .rw[z];show⟨.inr rfl,f _ t⟩
 .rw[Am.mp z];show⟨.inl g2,f _ r⟩
def Yu2(L:Leaves X E)(I:Inv X pins σ H s)(h:H e=some (XO e cls dd))(i:ExAt s.heap e cls dd .none)(h0:X.s₀⁻¹<=e)(k:E cls dd H):X.xe (.ref e) s:=by
 refine L.xe _ _ ?_
 unfold leaving
 refine Aa (Zb5 (outer:=X.outer) (base:=X.base) (L:=X.env.locals) (by rw[<-L.stk];show I.ok.frames) (by rw[<-L.stk];show I.stack) L.fr i fun h1 l g f d c a=>?_)
 refine O4 (xs:=[e]) L I (fun b j=>?_) (by simp) h g f d c (by rw[L.stk];show a) k
 rw[Am.mp j];show⟨.inr rfl,h0⟩
def XN(e:Uc)(cls:Ua)(dd:Option Uc):HO:= .ext fun h=>ExAt h e cls dd .none
def XN.ok{P:Ud}{H:Hp}{dd:Option Uc}(x:ExAt h e cls dd .none):Yc P w H h e (XN e cls dd):=by
 refine⟨x,?_,fun a b y k=>y.at k⟩
 let⟨c,_,h1,_⟩:=x
 show⟨c,h1⟩
def Yf3{f:Str}{y:V}(I:Inv X pins σ H s)(he:H e=some (XN e (.ref C) none))(S:ExcSet X.K C f)(ry:RelV y u)
  (h:∀dx s',H dx=none->Inv X pins σ (upd (upd H dx (.xd [(f,y)])) e (XN e (.ref C) (some dx))) s'->Q () s'):wpAny (model X.prog X.w) A (setAttr (.ref e) f u) Q E' s:=by
 let⟨oe,vs,h1,⟨h2,h3⟩,h4,h5⟩:=(show ExAt s.heap e (.ref C) none .none from(I.hok e _ he).1)
 have nde:s⁻¹≠e:=nq (Aj h1)
 have fr:H s⁻¹=none:=I.hok.fresh (nc _)
 refine Cp I.kIn S h1 h2 h3 h4 fun h' tk' a1 a2 a3=>h s⁻¹ _ fr (I.un (t':=tk') ⟨fun b o q n _ _=>?_,fun b o q n _ _=>?_,fun b o q n _=>?_,fun b o q _=>?_,fun b xs q=>?_,fun b o u q=>?_,fun b ps q=>?_⟩ fun b w' q=>?_)
 .exact a3 b o (fun z=>by rw[z,he] at n;cases n) q
 .exact⟨o.slots,a3 b o (fun z=>by rw[z,he] at n;cases n) q⟩
 .rw[Z6 (fun z=>by rw[z,he] at n;cases n),Z6 (nk (Aj q))];show n
 .by_cases hb:b=e
  .exact⟨_,by rw[hb];show a1⟩
  .exact⟨o,a3 b o hb q⟩
 .rw[Z6 (fun z=>by rw[z,he] at q;cases q),Z6 (fun z=>by rw[z,fr] at q;cases q)];show q
 .rw[Z6 (fun z=>by rw[z,he] at q;cases q),Z6 (fun z=>by rw[z,fr] at q;cases q)];show q
 .exact⟨#[],by rw[Z6 (fun z=>by rw[z,he] at q;cases q),Z6 (fun z=>by rw[z,fr] at q;cases q),q];simp⟩
 .by_cases hb:b=e
  .subst hb
   rw[Zl] at q
   cases q
   show XN.ok ⟨_,vs,a1,⟨h2,rfl⟩,h4,h5⟩
  .rw[Z6 hb] at q
   by_cases hd:b=s⁻¹
   .subst hd
    rw[Zl] at q
    cases q
    refine⟨_,a2,fun g=>?_⟩
    by_cases hg:g=f
    .subst hg
     simp only[Ha,beq_self_eq_true,if_true]
     show ry
    .have hb:(g==f)=false:=by simpa using hg
     simp only[Ha,hb,List.lookup_nil,if_neg hg]
     trivial
   .rw[Z6 hd] at q
    refine(I.hok b w' q).stay (fun c v hc r=>a3 c v ?_ r) (fun c z=>?_) fun c xs z=>?_
    .intro z
     rcases hc with y | y
     .exact hb (y.symm.trans z)
     .rw[z,he] at y;cases y
    .rw[Z6 (fun y=>by rw[y,he] at z;cases z),Z6 (fun y=>by rw[y,fr] at z;cases z)];show z
    .rw[Z6 (fun y=>by rw[y,he] at z;cases z),Z6 (fun y=>by rw[y,fr] at z;cases z)];show z
end
section
variable{X:Cx}{pos pos':Pos}{o value:Expr}{f:Str}{ta tv:TE}
def sExc(K:Ab)(ta tv:TE)(f:Str):TS:=fun D a H=>tv a H fun y d=>ta a d fun x c=>∃e C,x= .ref e/\c e=some (XN e (.ref C) none)/\ExcSet K C f/\∀b,c b=none->D.nx a (upd (upd c b (.xd [(f,y)])) e (XN e (.ref C) (some b)))
def Yn2(n:PE X o ta)(k:PE X value tv)(l:swapsWith value (some (.Attribute o f pos')) pos.line X.env=pure false):PS X (.Assign [.Attribute o f pos'] value pos) (sExc X.K ta tv f):=by
 intro a s b H D I h
 refine plainObj_wpAny_Assign_Attribute (thn (k a s b H _ I h) fun u c ⟨y,A,z,d,q⟩=>thn (n a c b A _ z q) fun j E zz57=>?_) l
 let⟨x,F,w,g,e,C,p,r,S,i⟩:=zz57
 subst p
 obtain rfl:j=Value.ref e:=g
 show Yf3 w r S d fun t B m v=>⟨b,_,v,i t m⟩
end
structure ExcMk(K:Ab)(C f:Uc):Prop where
 cls:∃nm q N bs bm hdct sn sub ab col dd k0 k1 k2 k3 k5,K.lookup C=some (excClassObj nm q C N bs bm hdct sn sub ab col dd k0 k1 k2 k3 k5 "ValueError.__new__")/\(Value.ref C::bm).contains (.type "ValueError")=true/\
  (Value.ref C::bm).contains (.type "AttributeError")=false/\(Value.ref C::bm).contains (.type "NameError")=false/\(Value.ref C::bm).contains (.type "BaseException")=true
 init:Ho K (.ref C) "__init__"=some (↑f)
 fn:PySem.W.isFn K (.ref f)=true
 kp:Dm K (.ref C)=true
def ExcMk.at{K:Ab}{C f:Uc}(M:ExcMk K C f)(k:K.In h):∃e q N o p a d b r c n m l j i g,ExcCls h C e q N o p a d b r c n m l j i g "ValueError" "ValueError.__new__":=by
 let⟨e,q,N,o,p,a,d,b,r,c,n,m,l,j,i,g,w,v,u,t,s⟩:=M.cls
 show⟨e,q,N,o,p,a,d,b,r,c,n,m,l,j,i,g,k _ _ w,v,u,t,s⟩
section
variable{X:Cx}{k:Nat}{f C:Uc}{fd:FuncData}{ps:LS}{sp:Sp}{dvs:LV}{ds:LW}{pins:PLO}{σ:L2.St}{H:Hp}{s:Ub}{us:LW}{vs:LV}
def Zv4{Q:Uc->Hp->Prop}{E':VSP}(M:ExcMk X.K C f)(F:FnOk X.prog X.w X.K X.mg X.base CX0 k f fd ps sp)(J:Room (k+1) X.A)(R:Yg X.K fd ps ds)(P:Vals dvs ds)(I:Inv X pins σ H s)(r:Vals vs us)(hz:us.length<=sizeLine)
  (h:∀e,H e=none->sp (.ref e::(vs++dvs)) (upd H e (XN e (.ref C) none)) (fun v H2=>v= .non/\Q e H2) E0):
  ⇑X (call (.ref C) us) (fun u s'=>∃e H',u= .ref e/\Inv X pins σ H' s'/\X.s₀⁻¹<=e/\X.K.In s'.heap/\Q e H') E' s:=by
 let⟨nm,q,N,bs,bm,x,sn,z,ab,Y,dd,k0,k1,k2,k3,k5,Z⟩:=M.at I.kIn
 have S:H (s⁻¹+1)=none:=I.hok.fresh (mh _)
 have p:=h (s⁻¹+1) S
 have j:((s.heap.push (E3 us)).push (Pm C s⁻¹)).get? (s⁻¹+1)=some (Pm C s⁻¹):=by heap_get
 have n:Inv X pins σ (upd H (s⁻¹+1) (XN (s⁻¹+1) (.ref C) none)) {s with heap:=(s.heap.push (E3 us)).push (Pm C s⁻¹)}:=
  I.laid (a:=s⁻¹+1) (t':=s.toks) (fun b u e=>Ah _ (Ah _ e)) (mh _) (XN.ok ⟨_,_,j,⟨rfl,rfl⟩,rfl,rfl⟩)
 have o:Vals (V.ref (s⁻¹+1)::(vs++dvs)) (Value.ref (s⁻¹+1)::(us++ds)):= .cons rfl (r.append P)
 have L:(Value.ref (s⁻¹+1)::us++ds).length=ps.length:=by
  have e:=o.length
  rw[F.len _ _ _ _ p] at e
  show e.symm
 have B:X.s₀⁻¹<=s⁻¹+1:=nj I.sz (mh _)
 refine Mc ?_
 have O:=PySem.W.looks_findIn (M:=model X.prog X.w) I.kIn M.init
 have m:=fun i=>PySem.W.bind_fn (M:=model X.prog X.w) I.kIn i (beq_iff_eq.mp M.fn)
 let⟨l,g,d,t,os⟩:=s
 refine Zu2 PySem.F.excBase_ValueError Z O m (Ki (F.run _ X.stack _ _ ⟨Value.ref (l.objs.size+1)::us,[]⟩ (Value.ref (l.objs.size+1)::(us++ds)) _ _ E0 (J.make C us []) (n.env0.make C us []) (R _ (Value.ref (l.objs.size+1)::us) n.kIn L) o p) fun E s' c=>?_) hz
 cases E with
 | error e=>show Bk c
 | ok T=>
  cases T with
  | ret u=>
   let⟨v,H',y,D,U,G⟩:=n.after c
   subst U
   show⟨D,l.objs.size+1,H',rfl,y,B,y.kIn,G⟩
  | next=>show Bk c
  | brk=>show Bk c
  | cont=>show Bk c
def Oy{E:VSP}{s:Ub}{x:Sem Ua}(P:A.handled=none)
  (h:wpAny M A x (fun v i=>∃(e:Uc) (p q:Str) (N:Uc) (J K:LW) (a:Bool) (o:LS) (b:LW) (L:Bool) (l:Option Bool) (I:Option Uc) (y w u t r:Option Ua) (G:Option Uc),
   v= .ref e/\ExcCls i.heap C p q N J K a o b L l I y w u t r "ValueError" "ValueError.__new__"/\ExAt i.heap e (.ref C) G .none/\E (.ref e) i) E s):
  wpAny M A (raiseStmt env (some x) none) Q E s:=by
 unfold raiseStmt
 refine Aa (Dy h (fun v i n=>?_) fun _ _ z=>z)
 let⟨e,p,q,N,J,K,a,o,b,L,l,I,y,w,u,t,r,G,rfl,T,⟨O,vs,R,⟨D,j⟩,B,n⟩,S⟩:=n
 let⟨F,_,_,_,m⟩:=T
 let⟨Y,g,d,U,W⟩:=i
 let⟨c,dc,Z,V⟩:=O
 dsimp only at D j B
 subst D j B
 repeat (first | with_reducible refine Iy R ?_ | with_reducible refine Iy F ?_ | (with_reducible refine Lj F ?_;rw[m]) | wp_step)
 rw[n]
 refine Ai ?_
 rw[ng 'd']
 show Ai (wpAny_raiseNew_none P S)
def Y59(C:Uc)(sp:Sp)(dvs:LV)(E:XK)(t:TA):TS:=fun _ σ H=>t σ H fun vs c=>vs.length<=8/\∀e,c e=none->sp (.ref e::(vs++dvs)) (upd c e (XN e (.ref C) none)) (fun v b=>v= .non/\∃a,b e=some (XN e (.ref C) a)/\E (.ref C) a (upd b e (XO e (.ref C) a))) E0
def Z25{E:XK}{vs:LV}(L:Leaves X E)(M:ExcMk X.K C f)(F:FnOk X.prog X.w X.K X.mg X.base CX0 k f fd ps sp)(S:Room (k+1) X.A)(U:Yg X.K fd ps ds)(T:Vals dvs ds)(I:Inv X pins σ H s)(r:Vals vs us)(hz:vs.length<=8)
  (h:∀e,H e=none->sp (.ref e::(vs++dvs)) (upd H e (XN e (.ref C) none)) (fun v j=>v= .non/\∃b,j e=some (XN e (.ref C) b)/\E (.ref C) b (upd j e (XO e (.ref C) b))) E0):
  ⇑X (call (.ref C) us) (fun v c=>∃(e:Uc) (m q:Str) (N:Uc) (B D:LW) (a:Bool) (l:LS) (d:LW) (G:Bool) (i:Option Bool) (b:Option Uc) (y u t p o:Option Ua) (Z:Option Uc),
   v= .ref e/\ExcCls c.heap C m q N B D a l d G i b y u t p o "ValueError" "ValueError.__new__"/\ExAt c.heap e (.ref C) Z .none/\X.xe (.ref e) c) X.xe s:=by
 refine thn (Zv4 (Q:=fun e j=>∃b,j e=some (XN e (.ref C) b)/\E (.ref C) b (upd j e (XO e (.ref C) b))) M F S U T I r (by rw[<-r.length];show nj hz 'd') h) fun v c zz58=>?_
 let⟨e,H',Y,O,P,n,g,J,W⟩:=zz58
 let⟨m,q,N,B,D,a,l,d,G,i,b,y,u,t,p,o,cl⟩:=M.at n
 have x:ExAt c.heap e (.ref C) g .none:=(O.hok e _ J).1
 have I2:Inv X pins σ (upd H' e (XO e (.ref C) g)) {c with heap:=c.heap,toks:=c.toks}:=
  O.write (x:=e) (e:=e) (by rw[J];show Hu) (.inl rfl) (fun _ _ _ z=>z) (by let⟨R,_,z,_⟩:=x;show⟨R,z⟩) (XO.ok x)
 show⟨e,m,q,N,B,D,a,l,d,G,i,b,y,u,t,p,o,g,Y,cl,x,Yu2 L I2 Zl x P W⟩
def Zl2{E:XK}{x:Str}{l b pos:Pos}(L:Leaves X E)(O:X.calm=true)(M:ExcMk X.K C f)(F:FnOk X.prog X.w X.K X.mg X.base CX0 k f fd ps sp)(y:Room (k+1) X.A)(P:Yg X.K fd ps ds)(J:Vals dvs ds)(G:Gl X x)(B:X.mg x=↑C)
  (g:(x==("__debug__":Str))=false:=by decide):PS X (.Raise (some (.Call (.Name x l) [] [] b)) none pos) (Y59 C sp dvs E tNil):=by
 intro pins s σ H D I h
 let⟨u,h⟩:=h
 rw[arm_exec_Raise]
 simp only[show ∀e v,evalOpt (some e) v=some (eval e v) from fun _ _=>rfl,show ∀v,evalOpt none v=none from fun _=>rfl,Option.map]
 refine Aa (Kb (Oy (C:=C) (I.ok.hd O) ?_))
 refine Aa (Dy (Q:=fun v c=>∃(e:Uc) (m q:Str) (N:Uc) (T U:LW) (a:Bool) (j:LS) (d:LW) (V:Bool) (i:Option Bool) (S:Option Uc) (t r p o n:Option Ua) (R:Option Uc),
   v= .ref e/\ExcCls c.heap C m q N T U a j d V i S t r p o n "ValueError" "ValueError.__new__"/\ExAt c.heap e (.ref C) R .none/\X.xe (.ref e) c) ?_ (fun v c z=>Aa (Kb (Ai z))) fun _ _ z=>z)
 refine Hr (W2 I G B ?_ g)
 show PySem.W.callWith_K0 I.kIn M.kp (Z25 (us:=[]) L M F y P J I .nil u h)
end
end L3
namespace L3
open PySem PySem.W PySem.Calls PyProof.Rows Builtin Builtin.ObjectAttr
section
variable{prog:Ud}{w:Ue}{A:Around}{E:VSP}{K:Frag}{C D e:Uc}{s:Ub}
structure ExcIs(K:Frag)(C:Uc):Prop where
 cls:∃cd,clsIn K C=some cd/\cd.hasDict=true
 ga:findIn K (.ref C) "__getattribute__"=some (some (.builtin "BaseException.__getattribute__"))
 gh:findIn K (.ref C) "__getattr__"=some none
 base:mroIn K C (.type "BaseException")=some true
 own:findIn K (.ref C) "__class__"=some (some (.builtin "object.__class__"))
 ds:specialIn K (.builtin "object.__class__") "__get__"=some (some (.builtin "getset_descriptor.__get__"))
 tk:takesIn K (.builtin "object.__class__")=some true
 obj:mroIn K C (.type "object")=some true
def Zn4(X:K.In s.heap)(S:ExcIs K C)(J:InstAt s.heap e B C (some od))(h:Q (↑C) {s with toks:=s.toks+1}):
  wpAny (model prog w) A (getAttr? (.ref e) "__class__") Q E s:=by
 let⟨⟨L,p,o⟩,m,l,b,c,n,j,f⟩:=S
 let⟨k,g,d,t,x⟩:=s
 have G:findObj K C (some od) "__class__"=some (.bind (.builtin "getset_descriptor.__get__") (.builtin "object.__class__")):=findObj_data (by rw[p];rfl) c n j
 have u:=J.type (M:=model prog w)
 have I:=looks_findIn (M:=model prog w) X m
 have H:=looks_findIn (M:=model prog w) X l
 have q:=looks_find (M:=model prog w) X J G
 have i:Looks (model prog w) k (isInstance (.ref e) (.type "BaseException")) true:=u.andThen (looks_mroIn X b)
 unfold getAttr? getAttrBy? getAttrBy
 refine Aa (wpAny_mkText (Aa (wpAny_attempt (Hi (Aa (u.at (Aa (I.at ?_))))))))
 change wpAny _ _ (getAttrByItsOwn _ _ _ _ _ _) _ _ _
 unfold getAttrByItsOwn
 refine Aa (H.at (Aa (wpAny_attempt (Hi ?_))))
 unfold callGetattribute
 rw[ng 'd']
 unfold boundAndCalled
 rw[Yd8]
 refine Aa (Ai (Mc ?_))
 refine codeAny_call_builtin Y34 F.entry_bexc_ga (@check_slot (model prog w) _ _ _ "BaseException.__getattribute__" "BaseException" "__getattribute__" (.ref e) [.str "__class__" t] [] _ Yi1 Zv9 i (Y82 (.ref e) (.str "__class__" t)) ?_)
 change wpAny _ _ (typeOf (.ref e) >>=fun y=>find (.ref e) y "__class__" >>=_) _ _ _
 refine Aa (u.at (Aa (q.at ?_)))
 have a:=class_get (prog:=prog) (w:=w) (A:=A.in1) (s:=⟨k,g,d,t+1,x⟩) (tp:= .ref C) (R:=fun r v=>r= .ok (.ret (.ref C))/\v=⟨k,g,d,t+1,x⟩) X J f ⟨rfl,rfl⟩
 unfold bindTo
 refine Aa (Hi (Mc (Ki a fun r v z=>?_)))
 let⟨rfl,rfl⟩:=z
 refine Ai ?_
 change wpAny _ _ (handedOut (.ref C)) _ _ _
 show handed_on rfl (Ai h)
end
end L3
namespace L3
open PySem PySem.Spec PyProof.Rows L2
section
variable{K:Ab}{C e:Uc}
def Z10{f od:Obj}(S:ExcIs K C):PySem.W.KitX K (.ref e) (.ref C) (fun h=>PySem.W.InstAt h e f C (some od)) where
 ty:=fun _ _ _ I=>I.type
 it:=fun _ _ X _=>by
  let⟨i,a,_⟩:=S.cls
  unfold Lw at a
  split at a
  .rename_i c
   intro r o p l k q
   unfold isType loadHead
   show Aa (wpAny_loadPart (k _ _ (X _ _ c)) (Ai q))
  .cases a
 ne:=fun h d m g n j X b=>by
  let⟨i,a,_⟩:=S.cls
  refine Bool.eq_false_iff.mpr fun q=>?_
  have z:C=d:=Value.ref.inj (beq_iff_eq.mp q)
  subst z
  unfold Lw at a
  split at a
  .rename_i c
   have y:=(X _ _ c).symm.trans b
   cases y
  .cases a
 ca:=fun X I k=>Zn4 X S I k
variable{X:Cx}{pins:PLO}{σ:L2.St}{H:Hp}{s:Ub}{dx:Uc}{fs:List (Str×V)}
def Z41(I:Inv X pins σ H s)(i:H e=some (XO e (.ref C) (some dx)))(j:H dx=some (.xd fs)):∃(b od:Obj) (a:Str->Option Ua),PySem.W.InstAt s.heap e b C (some od)/\(∀name,PySem.W.lookIn name od=some (a name))/\∀f,RelO (fs.lookup f) (a f):=by
 let⟨p,b,o,n,⟨m,l⟩,k,_⟩:=XO.at (I.hok e _ i)
 let⟨a,h,g⟩:=(show Yc X.prog X.w H s.heap dx (.xd fs) from I.hok dx _ j)
 let⟨od,d,c⟩:=Gc h
 refine⟨b,od,a,⟨n,m,by unfold PySem.W.notCls;rw[k],by rw[l];show d⟩,c,g⟩
def rIsX(K:Ab):LV->Hp->VK->Prop:=fun d H Q=>∃e C dx fs c a b,d=[.ref e,c]/\H e=some (XO e (.ref C) (some dx))/\H dx=some (.xd fs)/\ExcIs K C/\(∀u,RelV c u->u=a)/\Kd K (.ref C) a=some b/\Q (.bl b) H
def Z62:V2 X (.builtin "isinstance") (rIsX X.K):=by
 intro pins s σ H l m Q I r h
 let⟨e,C,dx,fs,c,t,b,rfl,g,i,S,j,k,q⟩:=h
 let⟨u,v,rfl,f,d⟩:=Pl r
 obtain rfl:u=Value.ref e:=f
 cases j v d
 let⟨n,o,p,J,_⟩:=Z41 I g i
 show Hk (Z10 S) I.kIn J k (fun z=>nomatch z) fun a=>⟨.bl b,H,I.tok a,rfl,q⟩
end
def XP(X:Cx)(pins:PLO)(d:L2.St)(E:XK)(x:Ua)(s':Ub):Prop:=∃(e T:Uc) (a:Ua) (c:Option Uc) (b:Hp),x= .ref e/\Inv X pins d b s'/\FpOk X pins b T/\T≠e/\b e=some (XO e a c)/\
 ExAt s'.heap e a c (.ref T)/\TbAt s'.heap T .none/\E a c b
abbrev TEX:=L2.St->Hp->VK->XK->Prop
abbrev TSX:=Ends->XK->L2.St->Hp->Prop
def PEX(X:Cx)(e:Expr)(t:TEX):Prop:=
 ∀(a:PLO) (s:Ub) (b:L2.St) (H:Hp) (Q:VK) (E:XK),Inv X a b H s->t b H Q E->⇑X (eval e X.env) (EP X a b Q) (XP X a b E) s
def PSX(X:Cx)(st:List Stmt)(t:TSX):Prop:=
 ∀(a:PLO) (s:Ub) (b:L2.St) (H:Hp) (D:Ends) (E:XK),Inv X a b H s->t D E b H->⇑X (execs st X.env) (SP X a D) (XP X a b E) s
section
variable{X:Cx}{k:Nat}{f:Uc}{fd:FuncData}{ps:LS}{sp:Sp}{dvs:LV}{ds:LW}{x:Str}{p pos:Pos}{e:Expr}{es:List Expr}{t:TA}
def Ys7{c:L2.St}{H:Hp}{s s':Ub}{E:XK}{x:Ua}(I:Inv X pins c H s)(h:CX1 X.prog X.w X.stack H s E x s'):XP X pins c E x s':=by
 let⟨u,T,g,v,i,r,n,a,l,d,⟨y,q⟩,g1,⟨g2,g3⟩,j,m,o⟩:=h
 have J:Inv X pins c i s':=I.call' (ch:=[]) n l d a fun b z=>absurd z (by simp)
 show⟨u,T,g,v,i,r,J,I.fpOk q g2,g3,g1,j,m,o⟩
def Y79(sp:Sp)(dvs:LV)(t:TA):TEX:=fun a H Q E=>t a H fun b c=>sp (b++dvs) c Q E
def Zx0(F:FnOk X.prog X.w X.K X.mg X.base (CX1 X.prog X.w) k f fd ps sp)(y:Room k X.A)(G:Gl X x)(B:X.mg x=↑f)(D:Dm X.K (.ref f)=true)(M:Yg X.K fd ps ds)(L:Vals dvs ds)
  (N:PA X.nox (e::es) t) (j:(x==("__debug__":Str))=false:=by decide) (J:starEach (e::es) X.env=(false,eval e X.env)::starEach es X.env:=by rfl) (i:(backTo pos (starEach es X.env)).any (·.1)=false:=by rfl):
  PEX X (.Call (.Name x p) (e::es) [] pos) (Y79 sp dvs t):=by
 intro a s l H Q E I h
 refine Hr (W2 I G B ?_ j)
 refine PySem.W.callWith_K (h₀:=X.base) I.ok.mod.kin D (Dy (N pos a s l H _ (I.wish _) h) (fun b g zz59=>?_) fun _ _ z=>z.elim) J i
 let⟨m,o,P,r,q⟩:=zz59
 have d:Inv X a l o g:=P.unwish
 refine⟨d.kIn,?_⟩
 have n:Vals (m++dvs) (b++ds):=r.append L
 have C:(b++ds).length=ps.length:=by rw[<-n.length];show F.len _ _ _ _ q
 refine Mc (Ki (F.run X.A X.stack g o ⟨b,[]⟩ (b++ds) (m++dvs) Q E y d.env0 (M g b d.kIn C) n q) fun v R c=>?_)
 cases v with
 | error z=>show Ys7 d c
 | ok O=>
  cases O with
  | ret u=>show d.after c
  | next=>show Bk c
  | brk=>show Bk c
  | cont=>show Bk c
variable{te:TEX}
def Yw3(te:TEX)(i:Nat):TSX:=fun D E a H=>te a H (fun y b=>D.nx (a.set i (some y)) b) E
def Yi6{i:Nat}{x:Str}{a:Pos}(o:X.N.Nodup)(hi:X.N[i]?=some x)(j:Loc X.env.scope x)(n:PEX X e te)(l:swapsWith e (some (.Name x a)) pos.line X.env=pure false:=by rfl)(m:X.fn x=true\/X.env.scope.names.lookup x=some .local:=by first | show .inl rfl | show .inr rfl | assumption):
  PSX X [.Assign [.Name x a] e pos] (Yw3 te i):=by
 intro b s c H D E I h
 refine wpAny_execs_cons (wpAny_Assign_Name (thn (n b s c H _ E I h) fun v A q=>?_) l)
 let⟨y,w,u,d,g⟩:=q
 show Bi u o hi j d (fun z r=>Lx ⟨_,w,r,g⟩) m
end
def Held(X:Cx)(e:Uc):Cx:={X with A:=X.A.mark (↑e),calm:=false,xe:=fun _ _=>False}
section
variable{X:Cx}{pins:PLO}{σ:L2.St}{H:Hp}{s:Ub}{e:Uc}
def Yg1(a:X.Ok)(e:Uc):(Held X e).Ok:=
 ⟨a.mod,a.kind,a.glob,a.blt,a.above,a.inj,a.has,a.cab,(fun z=>nomatch z),a.frames,a.stk,a.exf,a.bs,a.bsz,a.noex,a.exfs,a.funs,a.frf⟩
def Yb5(I:Inv X pins σ H s)(e:Uc):Inv (Held X e) pins σ H s:=⟨Yg1 I.ok e,I.os,I.bare,I.base,I.loc,I.cell,I.free,I.freeC,I.pin,I.hok,I.len⟩
def Ry(a:X.Ok)(I:Inv (Held X e) pins σ H s):Inv X pins σ H s:=⟨a,I.os,I.bare,I.base,I.loc,I.cell,I.free,I.freeC,I.pin,I.hok,I.len⟩
def Y28{T L:Uc}{g:Ua}{f:Uf}(I:Inv X pins σ H s)(C:FpOk X pins H T)(t:H e=some (XO e g w))(x:ExAt f e g w (.ref L))(k:Flown (frsE X.stack) [e,T] s.heap f):
  Inv X pins σ H {s with heap:=f}:=by
 let⟨G,v,N,F,E,D⟩:=C
 have h:∀b,H b=none->b≠e:=fun b n z=>by rw[z,t] at n;cases n
 have i:∀b o,b∉frsE X.stack->b≠T->b≠e->s.heap.get? b=some o->f.get? b=some o:=fun b o d c a q=>k.keep b o q d (by simp[c,a])
 have p:∀b o,b≠T->b≠e->s.heap.get? b=some o->∃l,f.get? b=some {o with slots:=l}:=fun b o c a q=>by
  by_cases d:b∈frsE X.stack
  .exact k.slot b o q d (by simp[c,a])
  .exact⟨o.slots,i b o d c a q⟩
 refine I.step (g':=s.gens) (t':=s.toks) (d':=s.drawn) (ch:=[T]) (fun b j=>?_) (fun b o d c a q n=>i b o (fun z=>?_) ↥a (h b n) q) (fun b o _ _ a q n=>p b o ↥a (h b n) q) (fun _ _ _ _ n=>n)
  (fun b o _ q=>k.there b o q) (fun _ _ q=>q) (fun _ _ _ q=>q) (fun _ M q=>⟨#[],by rw[q];simp⟩) (fun m B=>?_) ?_ I.bare
 .rw[Am.mp j]
  show⟨F,v,E,D⟩
 .rcases An.mp (I.stkSub b z) with y | y
  .exact d y
  .exact c y
 .let⟨o,J,K,A,r⟩:=B
  let⟨l,q⟩:=p _ o (Au v) (h _ I.free) A
  show⟨_,J,K,q,r⟩
 .refine Ff I.hok t x fun b u o q j r=>i b o (fun z=>?_) (fun z=>?_) j r
  .rw[I.stkFree b z] at q;cases q
  .rw[z,G] at q;cases q
def Z66{c:Uc}{a:Uf}(I:Inv X pins σ H s)(d:FpOk X pins H c)(k:∀b o,b≠c->s.heap.get? b=some o->a.get? b=some o):Inv X pins σ H {s with heap:=a}:=by
 let⟨j,i,l,h,g,f⟩:=d
 show I.turned (t':=s.toks) k j i h g f
end
structure Catch(K:Ab)(C D:Uc)(b:Bool):Prop where
 ty:PySem.W.typeIn K (.ref D)=some (.type "type")
 cls:(Lw K D).isSome=true
 exc:PySem.W.mroIn K D (.type "BaseException")=some true
 sub:PySem.W.mroIn K C (.ref D)=some b
section
open PySem.W
def Cc{E:VSP}{K:Frag}{C D e:Uc}{b:Bool}{f:Obj}{s:Ub}(X:K.In s.heap)(S:Catch K C D b)(m:s.heap.get? e=some f)(n:f.cls= .ref C)(h:Q b s):
  wpAny (model prog w) A (excMatches (.ref e) (.ref D)) Q E s:=by
 let⟨i,c,o,j⟩:=S
 let⟨a,g,d,t,z⟩:=s
 have x:Looks (model prog w) a (typeOf (.ref D)) (.type "type"):=looks_typeIn X i
 have v:Looks (model prog w) a (isType (.ref D)) true:=by
  unfold clsIn at c
  split at c
  .rename_i l
   intro G B F y k q
   unfold isType loadHead
   show Aa (wpAny_loadPart (k _ _ (X _ _ l)) (Ai q))
  .cases c
 have u:Looks (model prog w) a (isSubtype (.ref D) (.type "BaseException")) true:=looks_mroIn X o
 have r:Looks (model prog w) a (typeOf (.ref e)) (.ref C):=by rw[<-n];show(Looks.ld m).andThen .now
 have p:Looks (model prog w) a (isSubtype (.ref C) (.ref D)) b:=looks_mroIn X j
 unfold excMatches isInstance
 refine Aa (Aa (x.at ?_))
 rw[tc_notTuple]
 refine Ai ?_
 simp only[Bool.false_eq_true,if_false]
 refine Aa (Ai ?_)
 rw[Lq]
 refine Aa (Aa ?_)
 unfold isExcClass
 refine Aa (Aa (v.at ?_))
 simp only[if_true]
 refine u.at ?_
 simp only[Bool.not_true,Bool.false_eq_true,if_false]
 refine Ai ?_
 change wpAny _ _ (pure PUnit.unit) _ _ _
 refine Ai ?_
 refine Aa (r.at (Aa ?_))
 rw[Lq]
 refine Aa (Aa (p.at ?_))
 cases b with
 | true=>
  simp only[if_true]
  show Ai (Ai (Ai h))
 | false=>
  simp only[Bool.false_eq_true,if_false]
  refine Ai ?_
  change wpAny _ _ (pure (none,PUnit.unit)) _ _ _
  show Ai (Ai h)
end
section
variable{X:Cx}{body suite:List Stmt}{b₀:Stmt}{x n:Str}{np hpos pos:Pos}{D:Uc}{i:Nat}{tb:TSX}{ts:TS}
def Ye7{P:Ud}{w:Ue}{K:Ab}{mg:Str->Option Ua}{base:Uf}{x a:Str}{st:Stmt}{f:Uc}{h:FuncData}{N ps:LS}{k:Nat}{sp:Sp}(F:Fun K x a st f h)(S:FnScope N ps (Zc st))(d:∀vs H Q E,sp vs H Q E->vs.length=ps.length)
  (c:∀(b:Ua) (A:Around) (outer:List Env) (s:Ub) (H:Hp) (vs:LV) (Q:VK) (E:XK),Room k (A.deeper (envOfC a (Zc st) s⁻¹ f b))->sp vs H Q E->
   ∃t,PSs (cxOf (CX1 P w) P w K mg base N a (Zc st) f b A outer s H E) (Zr st) t/\t {nx:=fun _ p=>Q .non p,rt:=Q} (start N vs) H):FnOk P w K mg base (CX1 P w) (k+1) f h ps sp:=by
 let⟨u,r,y,v,o,q,B,b,z,j,rfl,l,g⟩:=F.ex
 show Yg9 l g S d fun A outer s H vs Q E m e=>c b A outer s H vs Q E m e
end
end L3
namespace L3
open PySem PyProof.Rows
section
variable{prog:Ud}{w:Ue}{A:Around}{E:VSP}{s:Ub}
abbrev Y62(h:Uf)(z d c:Uc)(a:Ua)(b:Bool):Prop:=
 h.get? z=some {cls:= .type "zip",dict:=none,data:= .fields #[a,.bool b,.bool false,.ref d,.ref c],slots:=#[]}
end
section
variable{prog:Ud}{w:Ue}{A:Around}{E:VSP}{s:Ub}
structure ZS(h0 h:Uf)(S z TI TO i1 i2 l1 l2:Uc)(xs ys:Array Ua)(Ts:List Uc):Prop where
 kept:∀b o,h0.get? b=some o->h.get? b=some o
 zp:(Ts=[]/\Y62 h z TI TO .none false/\∃a b,IsPair h TO a b)\/∃(T:Uc) (b:Bool) (oT:Obj),Y62 h z TI TO (rawInt T) b/\h.get? T=some oT
 ti:IsPair h TI (.ref i1) (.ref i2)
 to:∃o,h.get? TO=some o
 t1:h.IsListIter i1 l1 Ts.length
 t2:h.IsListIter i2 l2 Ts.length
 nd:Ts.Nodup
 tp:∀(j:Nat) T,Ts[j]?=some T->∃x y,xs[j]?=some x/\ys[j]?=some y/\IsPair h T x y
 tb:∀T∈Ts,h0.objs.size<=T/\T≠z/\T≠TO/\T≠i1/\T≠i2/\T≠S
structure ZF(h0:Uf)(S z TI TO i1 i2 l1 l2:Uc)(xs ys:Array Ua):Prop where
 D:ZipApart z TI TO i1 i2 l1 l2
 l1:h0.IsList l1 xs
 l2:h0.IsList l2 ys
 nz:h0.objs.size<=z
 nTO:h0.objs.size<=TO
 n1:h0.objs.size<=i1
 n2:h0.objs.size<=i2
 nS:h0.objs.size<=S
 sz:S≠z
 sTI:S≠TI
 sTO:S≠TO
 s1:S≠i1
 s2:S≠i2
end
structure ZEnd(h0 h:Uf)(S:Uc)(xs ys:Array Ua)(Ts:List Uc):Prop where
 kept:∀b o,h0.get? b=some o->h.get? b=some o
 len:Ts.length=min xs.size ys.size
 nd:Ts.Nodup
 tp:∀(j:Nat) T,Ts[j]?=some T->∃x y,xs[j]?=some x/\ys[j]?=some y/\IsPair h T x y
 tb:∀T∈Ts,h0.objs.size<=T/\T≠S
 so:∃c,h.get? S=some {cls:= .type "list",dict:=none,data:= .seq (Ts.map Value.ref).toArray c,slots:=#[]}
end L3
namespace L3
open PySem PySem.Spec PyProof.Rows L2
section
variable{X:Cx}{pins:PLO}{σ:L2.St}{H H':Hp}{s:Ub}{h':Uf}
def Vp:∀Ts:List Uc,Vals (Ts.map V.ref) (Ts.map Value.ref)
 | []=> .nil
 | _::r=> .cons rfl (Vp r)
end
section
variable{X:Cx}
def eqVs(vs ys:LV):Bool:=(Ik (min vs.length ys.length)).all (fun j=>eqV (vs.getD j .non) (ys.getD j .non))&&vs.length==ys.length
def eqUT(H:Hp)(ys:LV):Ua->Bool
 | .ref a=>match H a with
  | some (.tup b)=>eqVs b ys
  | _=>false
 | _=>false
def Zx5{x:V}(h:Xc x=true):eqV x x=true:=by
 cases x<;>first | rfl | show decide_eq_true rfl | show beq_self_eq_true _ | (simp[eqV];done) | show absurd (show false=true from h) Bf9
def Zm4(h:xs.all Xc=true):eqVs xs xs=true:=by
 unfold eqVs
 rw[Bz9,Hm]
 refine⟨fun j b=>?_,by simp⟩
 rw[Il] at b
 have a:j<xs.length:='o'
 rw[Hm] at h
 rw[Hb,Ag a]
 show Zx5 (h _ (Hz a))
def Yq3{p:L2.St}{H:Hp}{s:Ub}(I:Inv X pins p H s)(J:A.units+2<cLine){a b:Uc}(n:H a=some (.tup vs))(k:H b=some (.tup ys))(l:vs.all Xc=true)(o:ys.all Xc=true):Dw A s (.ref a) (.ref b) (eqVs vs ys):=by
 by_cases e:a=b
 .subst e
  rw[n] at k
  cases k
  rw[Zm4 l]
  show Dw.same _
 .let⟨g,m,v,_⟩:=I.tuple (.of n)
  let⟨f,c,t,_⟩:=I.tuple (.of k)
  have B:=m.length
  have z:=c.length
  have d:=SeqAt.RcAt.tuples (A:=A) (e:=fun j=>eqV (vs.getD j .non) (ys.getD j .non)) v t 'o' (fun j E D=>by
   have i:j<vs.length:=by rw[Al] at E;lia
   have h:j<ys.length:=by rw[Al] at D;lia
   let⟨u,G,y⟩:=m.get (Ag i)
   let⟨w,F,x⟩:=c.get (Ag h)
   have r:g.toArray[j]=u:=by have:=(Ac.mp G).2;simpa using this
   have q:f.toArray[j]=w:=by have:=(Ac.mp F).2;simpa using this
   rw[r,q,Hb,Hb,Ag i,Ag h]
   rw[Hm] at l o
   show Z33 y x (l _ (Hz i)) (o _ (Hz h)))
  have C:((Ik (min g.toArray.size f.toArray.size)).all (fun j=>eqV (vs.getD j .non) (ys.getD j .non))&&g.toArray.size==f.toArray.size)=eqVs vs ys:=by
   unfold eqVs
   rw[Al,Al,B,z]
  rw[C] at d
  show Dw.of_refs e d
def Ya3{H:Hp}{s:Ub}{a b:Uc}(I:Inv X pins j H s)(k:∀c o,c≠a->c≠b->s.heap.get? c=some o->h'.get? c=some o)(h:FpOk X pins H a)(g:FpOk X pins H b):Inv X pins j H {s with heap:=h',toks:=t'}:=by
 have p:∀c u,H c=some u->c≠a:=by
  intro c u e z
  rw[z,h.1] at e
  cases e
 have l:∀c u,H c=some u->c≠b:=by
  intro c u e z
  rw[z,g.1] at e
  cases e
 have i:∀c o,c∉[a,b]->s.heap.get? c=some o->h'.get? c=some o:=by
  intro c o f e
  refine k c o ?_ ?_ e
  .intro z;apply f;rw[z];simp
  .intro z;apply f;rw[z];simp
 refine I.step (ch:=[a,b]) (g':=s.gens) (d':=s.drawn) ?_ ?_ ?_ ?_ ?_ ?_ ?_ ?_ ?_ ?_ I.bare
 .intro c f
  have:c=a\/c=b:=by simpa using f
  rcases this with rfl | rfl
  .exact⟨h.2.2.2.1,h.2.1,h.2.2.2.2.1,h.2.2.2.2.2⟩
  .exact⟨g.2.2.2.1,g.2.1,g.2.2.2.2.1,g.2.2.2.2.2⟩
 .intro c o _ _ f e _;show i c o f e
 .intro c o _ _ f e _;show⟨o.slots,i c o f e⟩
 .intro _ _ _ _ n;show n
 .intro c o f e;show⟨o,i c o f e⟩
 .intro _ _ e;show e
 .intro _ _ _ e;show e
 .intro c A e;show⟨#[],by rw[e];simp⟩
 .rintro m ⟨o,x,y,t,r⟩
  show⟨o,x,y,k _ o (Au h.2.1) (Au g.2.1) t,r⟩
 .intro c u e
  refine(I.hok c u e).stay ?_ (fun _ q=>q) fun _ _ q=>q
  intro d v w q
  rcases w with z | z
  .subst z;show k d v (p d u e) (l d u e) q
  .exact k d v (p d _ z) (l d _ z) q
def Ite(K:Ab)(a:Uc):It:=
 ⟨fun i H=>∃b x,SqL K H a b/\b[i]?=some x,fun i H x c=>∃p y,H p=none/\c=upd H p (.tup [.int i,y])/\x= .ref p/\∀b,SqL K H a b->b[i]?=some y,fun i H=>∃b,SqL K H a b/\b.length<=i⟩
def S7{h:Uf}{o u:Obj}{b:Uc}(e:(h.push o).get? b=some u):h.get? b=some u\/b=h.objs.size:=by
 by_cases a:b=h.objs.size
 .exact .inr a
 .refine .inl ?_
  have c:=Aj e
  rw[Ia] at c
  let⟨f,d⟩:=Heap.get?_some_iff.mp e
  refine Heap.get?_some_iff.mpr ⟨?_,d⟩
  cases h
  simpa[Heap.push,Array.getElem?_push,a] using f
def Zj8{P:Ud}{w:Ue}{K:Ab}{elts:List Expr}{x1:Nat}{tp:Pos}(a e m:Uc)(y:e≠m):
  Turn P w K (.Tuple elts x1 tp) (Ite K a) [e,m] e (fun i h=>(∃j,IsEnum h e m i j)/\h.IsListIter m a i) where
 mem:=by simp
 obj:=by
  rintro i h ⟨⟨j,r⟩,g⟩ b t
  have:b=e\/b=m:=by simpa using t
  rcases this with rfl | rfl
  .exact⟨_,r,fun v z=>by cases z⟩
  .let⟨o,e,c,d⟩:=g
   show⟨o,e,fun v z=>by rw[d] at z;cases z⟩
 keep:=by
  rintro i h h' ⟨⟨j,r⟩,g⟩ k
  show⟨⟨j,k e (by simp) _ r⟩,g.at fun o z=>k m (by simp) o z⟩
 item:=by
  rintro X rfl rfl rfl Y i l s T H E I F ⟨⟨j,r⟩,g⟩ ⟨xs,x,D,M⟩
  let⟨L,G,p,hz⟩:=I.list D
  let⟨u,hu,ru⟩:=G.get M
  have fe:=F e (by simp)
  have fi:=F m (by simp)
  have J:e<s⁻¹:=Aj r
  have V:m<s⁻¹:=by let⟨o,z,_⟩:=g;show Aj z
  refine wpAny_pyNext_enum_item r g p.isList (x:=u) ↥hu y fun h1 ho B hT z0 hk=>?_
  refine⟨_,rfl,wpAny_letOwnedTupleGo_enum ho fun R N n=>?_⟩
  replace n:Hv e h1 R:=n
  have O:R.get? s⁻¹=some {cls:= .type "tuple",data:= .seq #[.int i s.toks,u]}:=(n.2 _ (nq J)).trans hT
  have hn:H s⁻¹=none:=I.hok.fresh (nc _)
  have I1:Inv X l T (upd H s⁻¹ (.tup [.int i,x])) {s with heap:=s.heap.push {cls:= .type "tuple",data:= .seq #[.int i s.toks,u]},toks:=s.toks+1}:=by
   refine I.laid (fun b ob q=>Ah _ q) (nc _) ⟨show 2<=sizeLine by rw[Kz];lia,[.int i s.toks,u],.cons ⟨_,rfl⟩ (.cons ru .nil),⟨_,Aq _ rfl,rfl,_,rfl⟩⟩
  have C:∀b,b<s⁻¹->FpOk X l H b->FpOk X l (upd H s⁻¹ (.tup [.int i,x])) b:=by
   rintro b lb ⟨S,f⟩
   refine⟨?_,f⟩
   rw[Z6 (nk lb)]
   show S
  have I2:=Ya3 (h':=R) (t':=s.toks+1) I1 (fun c o Z t e'=>by
   rcases S7 e' with z | z
   .exact(n.2 c Z).trans (hk c o Z t z)
   .subst z
    have U:(s.heap.push {cls:= .type "tuple",data:= .seq #[.int i s.toks,u]}).get? s⁻¹=some o:=e'
    rw[Aq _ rfl] at U
    cases U
    show O) (C e J fe) (C m V fi)
  refine⟨.ref s⁻¹,_,I2,rfl,⟨_,x,hn,rfl,rfl,fun ys hy=>by rw[I.list_inj hy D];show M⟩,⟨⟨_,↥N⟩,B.at fun o z=>(n.2 m (Au y)).trans z⟩,fun b t=>?_⟩
  have:b=e\/b=m:=by simpa using t
  rcases this with rfl | rfl
  .exact(C _ J fe).1
  .exact(C _ V fi).1
 done:=by
  rintro X rfl rfl rfl Y i l s T H E I F ⟨⟨j,r⟩,g⟩ ⟨xs,D,M⟩
  let⟨L,G,p,hz⟩:=I.list D
  let⟨S,f1,f2,f3,f4,f5⟩:=F m (by simp)
  have hl:=G.length
  show wpAny_pyNext_enum_end (I.ok.hd Y) r g p.isList (by simp;lia) fun h' eb=>⟨rfl,I.turned (t':=s.toks) (fun b o t e=>eb b o t e) S f1 f3 f4 f5⟩
 self:=by
  rintro A i s Q E ⟨⟨j,r⟩,g⟩ h
  show wpAny_pyIter_enum r h
def Yy1(K:Ab)(f:TA):TI:=fun c H R=>f c H fun e b=>∃a,e=[V.ref a]/\(∃d,SqL K b a d)/\R (Ite K a) b
def Ye0{n:Nat}{l:Expr}{p pos:Pos}(C:Gl X "enumerate")(A:X.mg "enumerate"=none)(E:PA X [l] j)(y:starEach [l] X.env=[(false,eval l X.env)]):
  PI X (.Tuple elts n tp) (.Call (.Name "enumerate" p) [l] [] pos) (Yy1 X.K j):=by
 intro d s m H R I h
 refine Call_ (N9 I C A (u:= .type "enumerate") (by kernel_rfl) (Kh (thn (E pos d s m H _ I h) fun L c zz60=>?_) y rfl))
 let⟨J,F,f,r,t⟩:=zz60
 let⟨a,rfl,⟨G,z⟩,q⟩:=t
 let⟨u,rfl,o⟩:=J3 r
 cases o
 let⟨w,M,v,N⟩:=f.list z
 refine call_enumerate_list v.isList fun O k i x B=>?_
 refine wpAny_pyIter_enum k ?_
 have g:c⁻¹+1≠c⁻¹:='o'
 refine⟨c⁻¹+1,[c⁻¹+1,c⁻¹],_,_,F,rfl,f.kept (t':=c.toks) B,Zj8 a _ _ g,⟨⟨_,k⟩,i⟩,fun b D=>?_,q⟩
 have e:c⁻¹<=b:=by
  have:b=c⁻¹+1\/b=c⁻¹:=by simpa using D
  rcases this with rfl | rfl
  .exact mh _
  .exact nc _
 show f.fpOk e (f.hok.fresh e)
end
end L3
namespace PySem
def Gg:typeLookup (.type "list") "keys"=pure none:=by rw[typeLookup_type,builtinLookup_eq_fast];kernel_rfl
def Ye3{E:VSP}{s:Ub}{a:Uc}{k:Nat}
  (n:s.heap.get? a=some o) (q:o.cls= .type "list") (b:o.data= .seq xs k) (p:o.dict=none) (i:typeLookup (.type "list") name=pure none) (f:(["__module__","__name__","__qualname__","__doc__","__annotations__"]:LS).contains name=false) (y:A.handled=none)
  (h:∀h' tk e,Heap.NewExcOf s.heap h' e "AttributeError"->E (.ref e) {s with heap:=h',toks:=tk}) (m:name.length+100<=sizeLine:=by size_fits):
  wpAny (model prog w) A (getAttrBy (.ref a) (.str name u) false) Q E s:=by
 let⟨c,z,B,t⟩:=o
 simp only at q b p
 subst q b p
 let⟨x,g,d,tk,v⟩:=s
 have r:∀j,(⟨x,g,d,j,v⟩:Ub).TypeIs (.ref a) "list":=fun _=>⟨_,n,rfl⟩
 have K:=sub_AttributeError
 have J:=F.slot_list_getattribute.lookup
 have I:=F.slot_list_getattribute.bind (.ref a)
 have H:=am_list_getattr_none
 unfold getAttrBy
 repeat (any_goals (first | assumption | show r _ | ((with_reducible show wpAny _ _ (call (Value.builtin "list.__getattribute__") _ _) _ _ _);refine Md F.slot_list_getattribute (r _) am_entry_list_getattribute (F.args_list_getattribute_2 _ _) (meets_getattribute_miss_list a xs k t name _ i f m) ⟨n,y,fun h' j e l=>?_⟩) | wp_step))
 let⟨D,C,G⟩:=l.there
 change wpAny _ _ (getattributeRaised _ _ _ _ _ _ _) _ _ _
 unfold getattributeRaised
 repeat (any_goals (first | assumption | wp_step))
 show h _ _ _ l.of
def Ye1{E:VSP}{s:Ub}{a:Uc}{k:Nat}
  (hx:s.heap.get? a=some o) (hc:o.cls= .type "list") (hdat:o.data= .seq xs k) (hd:o.dict=none) (hA:A.handled=none)
  (h:∀h' tk,(∀b o,s.heap.get? b=some o->h'.get? b=some o)->Q none {s with heap:=h',toks:=tk}):wpAny (model prog w) A (getAttr? (.ref a) "keys") Q E s:=by
 let⟨hp,g,d,tk,os⟩:=s
 unfold getAttr? getAttrBy?
 have f1:=sub_AttributeError
 repeat (any_goals (first | assumption | ((with_reducible show wpAny _ _ (getAttrBy _ _ false) _ _ _);refine Ye3 hx hc hdat hd Gg 'k' hA fun h' tk' e hx'=>?_;let⟨ob,vs,he,hcl,_,_⟩:=hx'.there;refine Aa (wpAny_isInstance (T:="AttributeError") ⟨ob,he,hcl⟩ f1 ?_);show Ai (h h' tk' hx'.keeps)) | wp_step))
section
variable{prog:Ud}{w:Ue}{A:Around}{E:VSP}{R:Result->Ub->Prop}
def Td:entryFor table "dict.update.loop"=some Builtin.«dict.update.loop»:=entryFor_of_tree (by kernel_rfl)
def X1:plainId "dict.update.loop"=true:='k'
def Yi0{K:Type}[DecidableEq K](knd:KeyKind prog w K)(h:Uf)(v:Ua)(p:K×Ua):Prop:=∃t u,v= .ref t/\h.IsTuple t #[u,p.2]/\knd.is p.1 u=true
def Z61{K:Type}[DecidableEq K]{knd:KeyKind prog w K}{h:Uf}{d I l:Uc}{i:Nat}{kvs:List (K×Ua)}(e:h.DictOf knd d kvs)(g:h.IsListIter I l i):d≠I:=by
 rintro rfl
 let⟨o,_,_,c,_,f,_⟩:=e
 let⟨j,a,_,b⟩:=g
 rw[c] at a
 cases a
 rw[f] at b
 cases b
def Yi5{K:Type}[DecidableEq K]{knd:KeyKind prog w K}{l I d:Uc}{items:Array Ua}{ps:List (K×Ua)}(hh:A.in1.handled=none)(hsz:items.size<sizeLine)(w0:ps.length=items.size):
  ∀(k i:Nat) (s:Ub) (kvs:List (K×Ua)) (t:Tok),items.size - i=k->i<=items.size->kvs.length<=i->
  s.heap.IsListIter I l i->s.heap.IsList l items->s.heap.DictOf knd d kvs->(∀(j:Nat) v p,items[j]?=some v->ps[j]?=some p->Yi0 knd s.heap v p)->
  (∀h' tk,h'.DictOf knd d ((ps.drop i).foldl (fun m p=>stored m p.1 p.2) kvs)->(∀b o,b≠I->b≠d->s.heap.get? b=some o->h'.get? b=some o)->R (.ok (.ret .none)) {s with heap:=h',toks:=tk})->
  codeAny (model prog w) A (.builtin "dict.update.loop" ⟨[.ref d,.ref I,.int i t,.none],[]⟩) R s:=by
 intro k
 induction k with
 | zero=>
  intro i s kvs t hk hi U z J D Q q
  have W:i=items.size:='o'
  refine codeAny_builtin Td ?_
  rw[Around.under_plainId X1 _]
  change wpAny _ A.in1 (pyNext (.ref I) >>=_) _ _ s
  refine Aa (wpAny_pyNext_list_end hh z J (by rw[W];simp) fun h' he=>?_)
  change wpAny _ _ (Builtin.Dict.addKeywords d [] >>=_) _ _ _
  refine Aa (Ai (Ai ?_))
  have y:=Z61 D z
  refine q h' _ ?_ fun b o B _ e=>he b o B e
  rw[List.drop_of_length_le 'o']
  show D.extBut he y
 | succ k ih=>
  intro i s kvs t hk hi U z J D Q q
  have S:i<items.size:='o'
  obtain⟨v,hv⟩:∃v,items[i]?=some v:=⟨_,Array.getElem?_eq_getElem S⟩
  obtain⟨p,C⟩:∃p,ps[i]?=some p:=⟨_,Ag 'o'⟩
  refine codeAny_builtin Td ?_
  rw[Around.under_plainId X1 _]
  change wpAny _ A.in1 (pyNext (.ref I) >>=_) _ _ s
  refine Aa (wpAny_pyNext_list_item z J hv fun h' x0 P=>?_)
  let⟨tt,u,rfl,F,V⟩:=Q i v p hv C
  have y:=Z61 D z
  have f:∀b o,b≠I->s.heap.get? b=some o->h'.get? b=some o:=fun b o hb e=>(P.2 b hb).trans e
  have tI:tt≠I:=by
   rintro rfl
   let⟨o,g,_,n,x⟩:=F
   let⟨O,a,_,c⟩:=z
   rw[g] at a;cases a;rw[x] at c;cases c
  have lI:l≠I:=by
   rintro rfl
   let⟨o,g,_,n,x⟩:=J
   let⟨O,a,_,c⟩:=z
   rw[g] at a;cases a;rw[x] at c;cases c
  have M:∀(b:Uc) (o:Obj) xs n,s.heap.get? b=some o->o.data= .seq xs n->b≠d/\b≠I:=by
   intro b o xs n g x
   constructor
   .rintro rfl
    let⟨O,_,_,a,_,c,_⟩:=D
    rw[g] at a;cases a;rw[x] at c;cases c
   .rintro rfl
    let⟨O,a,_,c⟩:=z
    rw[g] at a;cases a;rw[x] at c;cases c
  let⟨ot,H,y0,nt,X⟩:=id F
  change wpAny _ _ (holding [.ref tt] _ >>=_) _ _ _
  refine Aa (Hi (Aa (wpAny_tryCatch ?_)))
  unfold Builtin.Dict.pairItems
  refine Aa (Ly (T:="tuple") ⟨ot,f _ _ tI H,y0⟩ ?_)
  rw[nh 'd']
  refine Aa (Ib (f _ _ tI H) X ?_)
  refine Ai ?_
  change wpAny _ _ (holding [u,p.2] (dictSet d u p.2)) _ _ _
  have z0:h'.DictOf knd d kvs:=D.extBut (fun b o hb e=>f b o hb e) y
  refine Hi (wpAny_dictSet_pairs V z0 (fun h2 Z G=>?_) 'o')
  refine Ai ⟨plainId_quiet X1 _,?_⟩
  have h:∀b o,b≠I->b≠d->s.heap.get? b=some o->h2.get? b=some o:=fun b o B L e=>(G.2 b L).trans (f b o B e)
  have:=ih (i+1) {s with heap:=h2,toks:=s.toks+1} (stored kvs p.1 p.2) 0 'o' 'o' ?_ ?_ ?_ Z ?_ ?_
  .exact this
  .unfold stored
   split
   .rw[Af];lia
   .rw[Ae,Ak];lia
  .let⟨o,g,r⟩:=x0
   show⟨o,(G.2 I (Au y)).trans g,r⟩
  .let⟨o,g,x,n,r⟩:=J
   show⟨o,h _ _ (M _ _ _ _ g r).2 (M _ _ _ _ g r).1 g,x,n,r⟩
  .intro j v p' B L
   let⟨t3,u3,e3,⟨o,g,x,n,r⟩,g3⟩:=Q j v p' B L
   show⟨t3,u3,e3,⟨o,h _ _ (M _ _ _ _ g r).2 (M _ _ _ _ g r).1 g,x,n,r⟩,g3⟩
  .intro L N Y k3
   refine q L N ?_ fun b o B h4 e=>k3 b o B h4 (h b o B h4 e)
   rw[Dz (by lia:i<ps.length)]
   rw[Ag 'o'] at C
   cases C
   show Y
variable{s:Ub}
def Yh9{K:Type}[DecidableEq K]{knd:KeyKind prog w K}{l:Uc}{o:Obj}{n:Nat}{items:Array Ua}{ps:List (K×Ua)}{Q:VSP}(hh:A.handled=none)
  (ho:s.heap.get? l=some o) (hc:o.cls= .type "list") (hdat:o.data= .seq items n) (hdi:o.dict=none) (hsz:items.size<sizeLine) (hps:ps.length=items.size)
  (hp:∀(j:Nat) v p,items[j]?=some v->ps[j]?=some p->Yi0 knd s.heap v p)
  (h:∀h' tk,h'.DictOf knd s⁻¹ (ps.foldl (fun m p=>stored m p.1 p.2) [])->(∀b o,s.heap.get? b=some o->h'.get? b=some o)->Q (.ref s⁻¹) {s with heap:=h',toks:=tk}):
  wpAny (model prog w) A (call (.type "dict") [.ref l]) Q E s:=by
 refine callType_codes (Q₁:=fun obj s₁=>obj= .ref s⁻¹/\s₁={s with heap:=s.heap.push {cls:= .type "dict",data:= .dict #[]}}) F.kt_called_dict (F.kt_typeCall_dict_1 _) F.entry_dict_init (kt_code_dict_new _ ⟨rfl,rfl⟩) ?_
 rintro obj s₁ ⟨rfl,rfl⟩
 have hnew:(s.heap.push {cls:= .type "dict",data:= .dict #[]}).DictOf knd s⁻¹ []:=Heap.DictOf.new s.heap
 refine⟨hnew.typeIs,F.args_dict_init_2 _ _,?_⟩
 unfold Builtin.«dict.__init__»
 refine Aa ?_
 unfold Builtin.Dict.selfAndRest
 refine Aa (wpAny_notOrdered_dict hnew.typeIs ?_)
 change wpAny _ _ (pure (s⁻¹,[Value.ref l])) _ _ _
 refine Ai ?_
 change wpAny _ _ (Builtin.Dict.updateFrom "dict.__init__" s⁻¹ (.ref l) [] .none) _ _ _
 unfold Builtin.Dict.updateFrom
 have ho':(s.heap.push {cls:= .type "dict",data:= .dict #[]}).get? l=some o:=Ah _ ho
 refine Aa (Ly (T:="list") ⟨o,ho',hc⟩ ?_)
 rw[nh 'd']
 refine Aa (Ye1 ho' hc hdat hdi (by first | show hh | rfl) fun h1 tk1 k1=>?_)
 simp only[Option.isNone_none,if_true]
 have hl1:h1.IsList l items:=⟨o,k1 _ _ ho',hc,n,hdat⟩
 have hd1:h1.DictOf knd s⁻¹ []:=by
  let⟨q,es,ep,hq,r⟩:=hnew
  show⟨q,es,ep,k1 _ _ hq,r⟩
 have old:∀b o,s.heap.get? b=some o->h1.get? b=some o:=fun b o e=>k1 b o (Ah _ e)
 refine Aa (Lu ?_)
 refine Aa (wpAny_pyIter_list hl1 ?_)
 refine Ai ⟨plainId_quiet X1 _,?_⟩
 refine Yi5 (A:=A.in1) (knd:=knd) (ps:=ps) hh hsz hps _ 0 _ [] 0 rfl (nl _) (nl _) ⟨_,Aq _ rfl,rfl,rfl⟩ (hl1.push _) (hd1.push _) ?_ ?_
 .intro j v p h2 h3
  let⟨t,u,e,⟨q,hq,r⟩,g⟩:=hp j v p h2 h3
  show⟨t,u,e,⟨q,Ah _ (old _ _ hq),r⟩,g⟩
 .intro h' tk hd' hk
  refine⟨rfl,h h' tk hd' fun b o e=>hk b o ?_ ?_ (Ah _ (old _ _ e))⟩
  .exact nk (Aj (old _ _ e))
  .exact nk (Aj e)
end
end PySem
namespace L3
open PySem PySem.Spec PyProof.Rows L2
section
variable{X:Cx}{pins:PLO}{σ:L2.St}{H:Hp}{s:Ub}
def Ez(K:Ab)(H:Hp):LV->List (Key×V)->Prop
 | [],[]=>True
 | v::r,p::q=>(∃t,v= .ref t/\SqT K H t [kV p.1,p.2])/\Ez K H r q
 | _,_=>False
def Z37(I:Inv X pins σ H s):∀(vs:LV) (its:LW) (ps:List (Key×V)),Vals vs its->Ez X.K H vs ps->∃a,KV ps a/\a.length=its.length/\∀(j:Nat) v p,its[j]?=some v->a[j]?=some p->Yi0 (Zp X.prog X.w) s.heap v p
 | [],its,ps,r,h=>by
  cases ps with
  | cons _ _=>show h.elim
  | nil=>
   have:=r.length
   cases its with
   | cons _ _=>simp at this
   | nil=>show⟨[],by constructor,rfl,fun j v p h=>by simp at h⟩
 | v::vs,its,ps,r,h=>by
  cases ps with
  | nil=>show h.elim
  | cons p ps=>
   let⟨⟨t,rfl,x⟩,h⟩:=h
   cases r with
   | @cons _ u _ its k r=>
   cases (show u=Value.ref t from k)
   let⟨y,l,b,_⟩:=I.tuple x
   let⟨f,e,rfl,i,g⟩:=Pl l
   let⟨a,o,n,m⟩:=Z37 I vs its ps r h
   refine⟨(p.1,e)::a,.cons ⟨rfl,g⟩ o,by rw[Ar,Ar,n],fun j v q d c=>?_⟩
   cases j with
   | zero=>
    cases d;cases c
    show⟨t,f,rfl,b,Gu i⟩
   | succ j=>show m j v q d c
def Yh2:∀{ps:List (Key×V)} {a:List (Key×Ua)} {kvs:List (Key×V)} {vs:List (Key×Ua)},KV ps a->KV kvs vs->KV (ps.foldl (fun m p=>putK m p.1 p.2) kvs) (a.foldl (fun m p=>stored m p.1 p.2) vs):=by
 intro ps a kvs vs h
 induction h generalizing kvs vs with
 | nil=>intro h;show h
 | cons e r ih=>
  intro h
  rw[Kq,Kq]
  refine ih ?_
  rw[e.1]
  show h.put _ e.2
def Bu:∀(ps:List (Key×V)) (kvs:List (Key×V)),(ps.foldl (fun m p=>putK m p.1 p.2) kvs).length<=kvs.length+ps.length
 | [],kvs=>nc _
 | p::ps,kvs=>by
  rw[Kq,Ar]
  have:=Bu ps (putK kvs p.1 p.2)
  have:=X5 kvs p.1 p.2
  lia
def Zl9{K:Ab}:∀{vs:LV} {ps:List (Key×V)},Ez K H vs ps->vs.length=ps.length:=by
 intro vs ps h
 induction vs generalizing ps with
 | nil=>
  cases ps with
  | nil=>rfl
  | cons _ _=>show Bk h
 | cons v vs ih=>
  cases ps with
  | nil=>show Bk h
  | cons p ps=>rw[Ar,Ar,ih h.2]
def Z97(B:X.calm=true):V2 X (.type "dict") (fun xs H Q=>∃(a:Uc) (vs:LV) (ps:List (Key×V)),xs=[V.ref a]/\SqL X.K H a vs/\Ez X.K H vs ps/\vs.length<sizeLine/\
  ∀p,H p=none->Q (.ref p) (upd H p (.dK (ps.foldl (fun m p=>putK m p.1 p.2) [])))):=by
 intro pins s σ H xs L Q I r h
 let⟨a,vs,ps,rfl,y,f,M,q⟩:=h
 let⟨u,rfl,i⟩:=J3 r
 cases i
 let⟨d,e,⟨o,n,z,E,D,C⟩,_⟩:=I.list y
 let⟨c,x,t,l⟩:=Z37 I vs d ps e f
 have N:=e.length
 have A:=Zl9 f
 refine Yh9 (knd:=Zp X.prog X.w) (ps:=c) (I.ok.hd B) z E C D (by rw[Al];lia) (by rw[Al];show t) (fun j v p G F=>l j v p ↥G F) fun O g J b=>?_
 have k:=Bu ps []
 refine⟨.ref _,_,I.laid (a:=s⁻¹) (o:= .dK (ps.foldl (fun m p=>putK m p.1 p.2) [])) (t':=g) b (nc _) (E9 (by rw[List.length_nil] at k;lia) (beq_eq_false_iff_ne.mpr (Au (nk I.big))) (Yh2 x .nil) J),rfl,q _ (I.hok.fresh (nc _))⟩
end
def Itd(a:Uc)(o:Obj):It:=⟨fun i H=>∃b p,H a=some (.frz o (.dK b))/\b[i]?=some p,fun i H x c=>c=H/\∀b,H a=some (.frz o (.dK b))->∃p,b[i]?=some p/\x=kV p.1,fun i H=>∃b,H a=some (.frz o (.dK b))/\b.length<=i⟩
def Zk3{P:Ud}{H:Hp}{a:Uc}(x:Yc P w H h a (.frz o (.dK kvs)))(c:o.data= .dict es ep):
  ∃vs,KV kvs vs/\h.DictAt (Zp P w) a vs ep/\vs.length=es.size:=by
 let⟨e,_,_,vs,b,n,l,m,g,k,f,j,d,i⟩:=x
 rw[e] at g
 cases g
 rw[c] at f
 cases f
 refine⟨vs,b,⟨o,es,e,k,c,j,d,i⟩,?_⟩
 have:=d.length
 simpa using this.symm
def X02{P:Ud}{k:Key}(h:(Zp P w).is k u=true):L2.RelV (kV k) u:=by
 rcases Zu h with⟨i,t,rfl,rfl⟩ | ⟨x,t,rfl,rfl⟩
 .exact⟨t,rfl⟩
 .exact⟨t,rfl⟩
def Yy5(r:KV kvs vs):∀{i:Nat} {p:Key×V},kvs[i]?=some p->∃u,vs[i]?=some (p.1,u)/\L2.RelV p.2 u:=by
 unfold KV at r
 induction r with
 | nil=>intro i p e;simp at e
 | @cons p q c b h t a=>
  intro i p e
  cases i with
  | zero=>
   cases e
   show⟨q.2,by rw[h.1];rfl,h.2⟩
  | succ i=>show a ↥e
def Zh0{P:Ud}{K:Ab}(a m:Uc)(V:o.data= .dict es ep):Turn P w K tg (Itd a o) [m] m (fun i h=>h.IsKeyIter m a i es.size ep) where
 mem:=by simp
 obj:=fun i h f b n=>by
  have e:b=m:=by simpa using n
  subst e
  let⟨o,e,c,d⟩:=f
  show⟨o,e,fun v z=>by rw[d] at z;cases z⟩
 keep:=fun i h y f k=>f.at fun o e=>k m (by simp) o e
 item:=by
  intro X J F L Y i g s T H E I x f G
  subst J F L
  let⟨A,p,t,D⟩:=G
  let⟨Z,l,S,u⟩:=Zk3 (I.hok a _ t) V
  let⟨q,C,e2⟩:=Yy5 l D
  let⟨R,Q,f2,O,N,M⟩:=x m (by simp)
  rw[<-u] at f
  refine wpAny_pyNext_dict_item f S C fun B y r j sb=>?_
  have I1:Inv X g T H {s with heap:=y}:=I.turned (t':=s.toks) (fun b o n e=>(sb.2 b n).trans e) R Q O N M
  let⟨ob,e,c,d⟩:=id j
  rw[u] at j
  show⟨B,rfl,Y18 (s:={s with heap:=y}) e c d 'd' ⟨kV p.1,H,I1,X02 r,⟨rfl,fun ys U=>by rw[t] at U;cases U;show⟨p,D,rfl⟩⟩,j,fun b n=>(x b n).1⟩⟩
 done:=by
  intro X J F L Y i g s T H E I x f G
  subst J F L
  let⟨A,t,D⟩:=G
  let⟨Z,l,S,u⟩:=Zk3 (I.hok a _ t) V
  let⟨R,Q,f2,O,N,M⟩:=x m (by simp)
  have z0:=l.length
  rw[<-u] at f
  show wpAny_pyNext_dict_end (I.ok.hd Y) f S (by simp;lia) fun y eb=>⟨rfl,I.turned (t':=s.toks) (fun b o n e=>eb b o n e) R Q O N M⟩
 self:=fun _ _ _ _ _ f h=>wpAny_pyIter_keyiter f h
section
variable{X:Cx}{pins:PLO}{σ:L2.St}{H:Hp}{s:Ub}{a:Uc}
def Zt2(I:Inv X pins σ H s)(e:H a=some (.dK kvs)):
  ∃o es ep,o.data= .dict es ep/\s.heap.get? a=some o/\Inv X pins σ (upd H a (.frz o (.dK kvs))) s/\(∀o u,X.H₀ a≠some (.frz o u)):=by
 let⟨z,i,g,c,f⟩:=Cu I.hok e
 let⟨o,es,ep,d,l,j,k⟩:=id f
 refine⟨o,es,ep,j,d,?_,fun h u q=>?_⟩
 .exact I.write (x:=a) (e:=a) (o:= .frz o (.dK kvs)) (h':=s.heap) (t':=s.toks) (by rw[e];show Hu) (.inl rfl) (fun b q _ r=>r) ⟨o,d⟩ ⟨d,z,i,g,c,f⟩
 .have:=I.base.frzs a h u q
  rw[e] at this
  cases this
def Y76(I:Inv X pins σ H s)(e:H a=some (.frz o (.dK kvs)))(j:∀o u,X.H₀ a≠some (.frz o u)):Inv X pins σ (upd H a (.dK kvs)) s where
 ok:=I.ok
 os:=I.os
 bare:=I.bare
 base:=by
  have k:∀b,H b=none->b≠a:=fun b n z=>by subst z;rw[e] at n;cases n
  refine⟨I.base.keep,I.base.slot,fun b q h n l=>?_,I.base.there,fun b f h=>?_,fun b q u h=>?_,fun b i h=>?_⟩
  .have:=I.base.free b q h n l
   rw[Z6 (k b this)];show this
  .have:=I.base.tups b f h
   rw[Z6 (fun z=>by subst z;rw[e] at this;cases this)];show this
  .have:=I.base.frzs b q u h
   rw[Z6 (fun z=>by subst z;show j q u h)];show this
  .let⟨m,this⟩:=I.base.tbls b i h
   show⟨m,by rw[Z6 (fun z=>by subst z;rw[e] at this;cases this)];show this⟩
 loc:=I.loc
 cell:=I.cell
 free:=by rw[Z6 (fun z=>by have:=I.free;rw[z,e] at this;cases this)];show I.free
 freeC:=fun x c h=>by
  have:=I.freeC x c h
  rw[Z6 (fun z=>by subst z;rw[e] at this;cases this)];show this
 pin:=fun p t=>by
  let⟨y,d,w⟩:=I.pin p t
  show⟨y,by rw[Z6 (fun z=>by rw[z,e] at d;cases d)];show d,w⟩
 hok:=by
  intro b u h
  by_cases g:b=a
  .subst g
   rw[Zl] at h
   cases h
   let⟨_,q⟩:=I.hok b _ e
   show q
  .rw[Z6 g] at h
   refine(I.hok b u h).stay (fun c v _ r=>r) (fun c r=>?_) fun c f r=>?_
   .rw[Z6 (fun z=>by subst z;rw[e] at r;cases r)];show r
   .rw[Z6 (fun z=>by subst z;rw[e] at r;cases r)];show r
 len:=I.len
end
section
variable{X:Cx}
def Jf{pins:PLO}{g:L2.St}{H:Hp}{s:Ub}{h':Uf}{t':Nat}{ch:List Uc}(I:Inv X pins g H s)(k:∀c o,c∉ch->s.heap.get? c=some o->h'.get? c=some o)(f:∀b∈ch,FpOk X pins H b):Inv X pins g H {s with heap:=h',toks:=t'}:=by
 have h:∀c u,H c=some u->c∉ch:=by
  intro c u e z
  rw[(f c z).1] at e
  cases e
 refine I.step (ch:=ch) (g':=s.gens) (d':=s.drawn) ?_ ?_ ?_ ?_ ?_ ?_ ?_ ?_ ?_ ?_ I.bare
 .intro c a
  show⟨(f c a).2.2.2.1,(f c a).2.1,(f c a).2.2.2.2.1,(f c a).2.2.2.2.2⟩
 .intro c o _ _ a e _;show k c o a e
 .intro c o _ _ a e _;show⟨o.slots,k c o a e⟩
 .intro _ _ _ _ n;show n
 .intro c o a e;show⟨o,k c o a e⟩
 .intro _ _ e;show e
 .intro _ _ _ e;show e
 .intro c t e;show⟨#[],by rw[e];simp⟩
 .rintro m ⟨o,l,p,i,r⟩
  show⟨o,l,p,k _ o (fun z=>(f _ z).2.1 rfl) i,r⟩
 .intro c u e
  refine(I.hok c u e).stay ?_ (fun _ q=>q) fun _ _ q=>q
  intro d v j q
  rcases j with z | z
  .subst z;show k d v (h d u e) q
  .exact k d v (h d _ z) q
def Itz(K:Ab)(a b:Uc):It:=
 ⟨fun i H=>∃d c x y,SqL K H a d/\SqL K H b c/\d[i]?=some x/\c[i]?=some y,
  fun i H x e=>∃p u v,H p=none/\e=upd H p (.tup [u,v])/\x= .ref p/\(∀d,SqL K H a d->d[i]?=some u)/\∀c,SqL K H b c->c[i]?=some v,
  fun i H=>∃d c,SqL K H a d/\SqL K H b c/\(d.length<=i\/c.length<=i)⟩
def Zy8{P:Ud}{w:Ue}{K:Ab}{elts:List Expr}{x1:Nat}{tp:Pos}(z n B t r a b:Uc)(D:ZipApart z n B t r a b):
  Turn P w K (.Tuple elts x1 tp) (Itz K a b) [z,n,B,t,r] z (fun i h=>IsZip h z n B .none/\IsPair h n (.ref t) (.ref r)/\(∃u v,IsPair h B u v)/\h.IsListIter t a i/\h.IsListIter r b i) where
 mem:=by simp
 obj:=by
  rintro i h ⟨m,f,⟨u,v,j⟩,⟨o1,e1,_,d1⟩,⟨o2,e2,_,d2⟩⟩ c d
  simp only[An,Df,or_false] at d
  rcases d with rfl | rfl | rfl | rfl | rfl
  .exact⟨_,m,fun v q=>by cases q⟩
  .exact⟨_,f,fun v q=>by cases q⟩
  .exact⟨_,j,fun v q=>by cases q⟩
  .exact⟨_,e1,fun v q=>by rw[d1] at q;cases q⟩
  .exact⟨_,e2,fun v q=>by rw[d2] at q;cases q⟩
 keep:=by
  rintro i h h' ⟨m,f,⟨u,v,j⟩,G,F⟩ k
  show⟨k z (by simp) _ m,k n (by simp) _ f,⟨u,v,k B (by simp) _ j⟩,G.at fun o q=>k t (by simp) o q,F.at fun o q=>k r (by simp) o q⟩
 item:=by
  rintro X rfl rfl rfl d i l s σ H E I N ⟨m,f,⟨u0,v0,j⟩,G,F⟩ ⟨xs,ys,x,y,M,L,hx,hy⟩
  let⟨U,R,p,_⟩:=I.list M
  let⟨T,C,S,_⟩:=I.list L
  let⟨u,hu,ru⟩:=R.get hx
  let⟨v,hv,O⟩:=C.get hy
  have lt:∀c∈[z,n,B,t,r],@LT.lt Nat _ c s⁻¹:=by
   intro c d
   simp only[An,Df,or_false] at d
   let⟨o1,e1,_⟩:=id G
   let⟨o2,e2,_⟩:=id F
   rcases d with rfl | rfl | rfl | rfl | rfl
   .exact Aj m
   .exact Aj f
   .exact Aj j
   .exact Aj e1
   .exact Aj e2
  refine wpAny_pyNext_zip_item D m f j G F p.isList S.isList (x:=u) (y:=v) ↥hu ↥hv fun hh ho J g1 g2 hT y0 hk=>?_
  refine⟨_,rfl,wpAny_letOwnedTupleGo_zip ho fun h3 V g=>?_⟩
  replace g:Hv z hh h3:=g
  have nz:s⁻¹≠z:=nq (lt z (by simp))
  have z0:h3.get? s⁻¹=some {cls:= .type "tuple",data:= .seq #[u,v]}:=(g.2 _ nz).trans hT
  have hn:H s⁻¹=none:=I.hok.fresh (nc _)
  have I1:Inv X l σ (upd H s⁻¹ (.tup [x,y])) {s with heap:=s.heap.push {cls:= .type "tuple",data:= .seq #[u,v]},toks:=s.toks}:=
   I.laid (fun b ob q=>Ah _ q) (nc _) ⟨show 2<=sizeLine by rw[Kz];lia,[u,v],.cons ru (.cons O .nil),⟨_,Aq _ rfl,rfl,_,rfl⟩⟩
  have up:∀c∈[z,n,B,t,r],FpOk X l (upd H s⁻¹ (.tup [x,y])) c:=by
   intro c d
   refine⟨?_,(N c d).2⟩
   rw[Z6 (nk (lt c d))]
   show(N c d).1
  have I2:=Jf (h':=h3) (t':=s.toks) I1 (fun c o d e'=>by
   simp only[An,Df,or_false,not_or] at d
   rcases S7 e' with q | q
   .exact(g.2 c d.1).trans (hk c o d.1 d.2.2.1 d.2.2.2.1 d.2.2.2.2 q)
   .subst q
    have z2:(s.heap.push {cls:= .type "tuple",data:= .seq #[u,v]}).get? s⁻¹=some o:=e'
    rw[Aq _ rfl] at z2
    cases z2
    show z0) up
  refine⟨.ref s⁻¹,_,I2,rfl,⟨_,x,y,hn,rfl,rfl,fun zs Y=>by rw[I.list_inj Y M];show hx,fun zs Y=>by rw[I.list_inj Y L];show hy⟩,
   ⟨V,(g.2 n D.TIz).trans (hk n _ D.TIz D.TITO D.TIi1 D.TIi2 f),⟨_,_,(g.2 B D.TOz).trans J⟩,g1.at fun o q=>(g.2 t D.i1z).trans q,g2.at fun o q=>(g.2 r D.i2z).trans q⟩,fun c d=>(up c d).1⟩
 done:=by
  rintro X rfl rfl rfl d i l s σ H E I N ⟨m,f,⟨u0,v0,j⟩,G,F⟩ ⟨xs,ys,M,L,Z⟩
  let⟨U,R,p,_⟩:=I.list M
  let⟨T,C,S,_⟩:=I.list L
  have l1:=R.length
  have l2:=C.length
  refine wpAny_pyNext_zip_end (I.ok.hd d) D m f j G F p.isList S.isList ?_ fun h' eb=>⟨rfl,Jf (t':=s.toks) I (ch:=[z,n,B,t,r]) (fun c o d e=>?_) N⟩
  .rcases Z with Z | Z
   .exact .inl (by simp;lia)
   .exact .inr (by simp;lia)
  .simp only[An,Df,or_false,not_or] at d
   show eb c o d.1 d.2.2.1 d.2.2.2.1 d.2.2.2.2 e
 self:=by
  rintro A i s Q E ⟨m,_⟩ h
  show wpAny_pyIter_zip m h
end
end L3
namespace SW
open PySem
def Rise(xs:Array Nat):Prop:=∀i k,i<k->k<xs.size->xs.getD i 0<xs.getD k 0
structure At(xs:Array Nat)(j i:Nat):Prop where
 le:i<=xs.size
 lo:∀k,k<i->xs.getD k 0<j
 hi:∀k,i<=k->k<xs.size->j<=xs.getD k 0
structure TOk(t:SetTable)(led:Bool):Prop where
 rise:Rise t.place
 dum:t.dummies=#[]
 led:t.led=led
end SW
namespace SW
open PySem PyProof.Rows
section
variable{M:Model}{prog:Ud}{w:Ue}{A:Around}{E:VSP}{s:Ub}
inductive KeysOf {K:Type} [DecidableEq K] (knd:KeyKind prog w K):List K->List (Int×Ua)->Prop
 | nil:KeysOf knd [] []
 | cons {k:K} {e:Int×Ua} {ks:List K} {l:List (Int×Ua)} (h:knd.is k e.2=true) (r:KeysOf knd ks l):KeysOf knd (k::ks) (e::l)
variable{K:Type}[DecidableEq K]{knd:KeyKind prog w K}
structure SetO(knd:KeyKind prog w K)(led:Bool)(o:Obj)(ks:List K):Prop where
 ex:o.ExactSet
 dat:∃es ep t,o.data= .set es ep t/\ElemsOf knd es.toList/\KeysOf knd ks es.toList/\t.fits es.size=true/\TOk t led
 nd:ks.Nodup
 sm:ks.length<scanBound
end
section
variable{prog:Ud}{w:Ue}{A:Around}{E:VSP}{s:Ub}
end
section
variable{prog:Ud}{w:Ue}{A:Around}{E:VSP}{s:Ub}
abbrev itO(f:Ua)(i:Nat)(a:Uc)(n ep:Nat):Obj:={cls:= .type "set_iterator",dict:=none,data:= .fields #[f,rawInt i,.ref a,rawInt n,rawInt ep],slots:=#[]}
section
variable{a I:Uc}{o:Obj}{es:Array (Int×Ua)}{ep:Nat}{t:SetTable}
def Y08(hh:A.handled=none)(h:∀h' e,(∀b u,s.heap.get? b=some u->h'.get? b=some u)->(∃u,h'.get? e=some u/\u.cls= .type "StopIteration")->R (.ref e) {s with heap:=h'}):wpAny (model prog w) A (newExc (.type "StopIteration") [] >>=fun e=>(raiseNew e:Sem Fin)) Q R s:=by
 refine Aa ?_
 simp only[newExc,newTuple]
 refine Aa (Ht ?_ (by size_fits))
 refine Aa (m:=firstArgMember _ _) (wpAny_of_eq (a:=Value.none) (by first | rfl | (simp only[firstArgMember];rfl)) ?_)
 refine Ht ?_ (by size_fits)
 simp only[raiseNew]
 refine Aa (wpAny_handled ?_)
 rw[hh]
 refine Aa (Ai (wpAny_throw ?_))
 show h _ _ (fun b u q=>Ah _ (Ah _ q)) ⟨_,Aq _ rfl,rfl⟩
end
end
section
variable{prog:Ud}{w:Ue}{A:Around}{E:VSP}{s:Ub}
structure ItSt(w:Ue)(I a T:Uc)(o:Obj)(es:Array (Int×Ua))(ep:Nat)(t:SetTable)(vs:LW)(i:Nat)(h:Uf):Prop where
 set:h.get? a=some o
 md:(w.params.followText "set-order"=true/\vs=(pickOrder (w.params.setOrder a ep) es).toList.map (·.2)/\h.get? I=some (itO (rawInt 0) i a es.size ep))
  \/(w.params.followText "set-order"=false/\(!t.plain&&decide (es.size >1))=false/\t.led=true/\Rise t.place/\vs=es.toList.map (·.2)/\∃slot,SetTable.below t.place slot=i/\h.get? I=some (itO (rawInt slot) i a es.size ep))
  \/(∃pl:LQ,h.IsTuple T (pl.map fun(k:Nat)=>rawInt k).toArray/\vs=pl.map (fun k=>(es.getD k (0,.none)).2)/\(∀k∈pl,k<es.size)/\h.get? I=some (itO (.ref T) i a es.size ep))
end
end SW
namespace SW
open PySem PyProof.Rows PySem.W
end SW
namespace SW
open PySem PyProof.Rows
end SW
namespace L3
open PySem PySem.Spec PyProof.Rows L2
section
variable{X:Cx}{pins:PLO}{σ:L2.St}{H:Hp}{s:Ub}
def Te:∀{vs:LW} {a:List Int},IntsAre vs a->Vals (a.map V.int) vs
 | _,_,.nil=> .nil
 | _,_,.cons n t r=> .cons ⟨t,rfl⟩ (Te r)
end
section
variable{X:Cx}{pins:PLO}{σ:L2.St}{H:Hp}{s:Ub}
def Zj4{prog:Ud}{w:Ue}{A:Around}{E:VSP}{s:Ub}{t b:Uc}{its:Array Ua}{g f:Ua}{lo hi:Option Int}{Q:VSP}(a:IsTup s.heap t its)(j:s.heap.IsSliceOf b g f .none)(pl:IsPart g lo)(k:IsPart f hi)
  (i:HT.sIx its.size 0 lo=0/\HT.sIx its.size its.size hi=its.size) (h:Q (.ref t) s):wpAny (model prog w) A (getItem (.ref t) (.ref b)) Q E s:=by
 let⟨l,c,d,m⟩:=id j
 have e:s.TypeIs (.ref b) "slice":=⟨l,c,d⟩
 unfold getItem
 try with_reducible refine Hi ?_
 first | refine Aa (Ai ?_) | skip
 refine Aa (wpAny_sequenceKey a.typeIs 'd' ?_)
 refine Aa (Ie (name:=Str.ofString "__getitem__") a.typeIs Hh (La Hh a.typeIs entry_tuple_getitem ?_ (args_tuple_getitem _ _)))
 change wpAny _ _ (Builtin.Tuple.tupleItemsOf (.ref t) >>=_) _ _ s
 refine Aa (tupleItemsOf_ a (Aa (Ly e ?_)))
 rw[nh 'd']
 refine Aa (HT.Xz j pl k ?_)
 change wpAny _ _ (if (((HT.sIx its.size 0 lo:Nat):Int)==0&&(1:Int)==1&&(HT.sIx its.size its.size hi - HT.sIx its.size 0 lo)==its.size)=true then _ else _) _ _ s
 rw[nh (by rw[i.1,i.2];simp)]
 refine Aa ?_
 unfold Builtin.Tuple.tupleIsExact
 refine Aa (Ly a.typeIs (Ai ?_))
 rw[nh 'd']
 show Aa (Lu (Ai ⟨_,rfl,Ai h⟩))
def Ya7:SlR X (fun x lo hi H Q=>∃a xs,x= .ref a/\SqT X.K H a xs/\(HT.sIx xs.length 0 lo=0/\HT.sIx xs.length xs.length hi=xs.length)/\Q x H):=by
 intro pins s σ H x v m l lo hi n Q I e k g f h
 let⟨a,xs,rfl,i,j,q⟩:=h
 cases e
 let⟨c,r,d,o⟩:=I.tuple i
 have b:c.toArray.size=xs.length:=by rw[Al];show r.length.symm
 show⟨"tuple",_,Hh.lookup,d.typeIs,Zj4 d k g f (by rw[b];show j) ⟨.ref a,H,I,rfl,q⟩⟩
end
end L3
namespace L2
open PySem PySem.Spec PyProof.Rows
variable{X:Cx}
end L2
namespace SW
open PySem PySem.Spec PyProof.Rows
section
variable{prog:Ud}{w:Ue}{A:Around}{E:VSP}{s:Ub}
def Z94:typeLookup (.type "list_reverseiterator") "__len__"=pure none:=by rw[typeLookup_type,builtinLookup_eq_fast];kernel_rfl
def G7:Slot "list_reverseiterator" "__length_hint__" "list_reverseiterator.__length_hint__":=
 .of (owner:="list_reverseiterator") (n:="__length_hint__") (by rw[typeLookup_type,builtinLookup_eq_fast];kernel_rfl) 'k' 'k' 'k'
  (by first | show .inl 'k' | show .inr 'k') (by rw[isSubtype_type];kernel_rfl)
def Y06{r:Uc}{Q:Bool->Ub->Prop}(d:s.TypeIs (.ref r) "list_reverseiterator")(h:Q false s):wpAny (model prog w) A (Builtin.List.listLengthHint (.ref r)) Q E s:=by
 unfold Builtin.List.listLengthHint
 refine Aa (wpAny_specialOf d Z94 ?_)
 change wpAny _ A (specialOf (Value.ref r) (Str.ofString "__length_hint__") >>=_) _ _ _
 refine Aa (wpAny_specialOf d G7.lookup ?_)
 generalize c:("list_reverseiterator.__length_hint__":String)=id0
 wp_delta
 rw[show splitId id0=some ("list_reverseiterator","__length_hint__") from by subst c;decide+kernel]
 subst c
 refine Aa (wpAny_isInstance (T:="list_reverseiterator") (b:=true) d (by rw[isSubtype_type];kernel_rfl) ?_)
 refine wpAny_ite_split (fun a=>absurd a 'd') (fun _=>?_)
 dsimp only
 refine wpAny_ite_split (fun _=>?_) (fun a=>absurd 'k' a)
 refine wpAny_ite_split (fun a=>absurd a 'k') (fun _=>?_)
 show Ai h
def Yf5{I l S:Uc}{items:Array Ua}{res:Ua}{R:Result->Ub->Prop}(hh:A.handled=none)(hit:s.heap.IsRevIter I l ((items.size:Int) - 1))(hl:s.heap.IsList l items)(hz:items.size<=sizeLine)(hlI:l≠I)(hSI:S≠I)(hSl:S≠l)(c0:Nat)(hS:s.heap.get? S=some {cls:= .type "list",data:= .seq #[] c0})
  (hR:∀h' tk acc c',ItemsOf (fun i v=>items[items.size - 1 - i]?=some v) acc items.size->(∀b u,b≠S->b≠I->s.heap.get? b=some u->h'.get? b=some u)->h'.get? S=some {cls:= .type "list",dict:=none,data:= .seq acc c',slots:=#[]}->R (.ok (.ret res)) {s with heap:=h',toks:=tk}):
  wpAny (model prog w) A.in1 (Kl (.ref S) (.ref I) res)
   (fun fin s'=>match fin with | .done f=>R (.ok f) s' | .again c'=>c'.quiet=true/\codeAny (model prog w) A c' R s') (fun e s'=>R (.error e) s') s:=by
 have W:=Walks.listRev (prog:=prog) (w:=w) (A:=A.in1) hh I l hlI items
 have nf:S∉[I,l]:=by
  simp only[An,Df,or_false,not_or]
  show⟨hSI,hSl⟩
 have st0:0<=items.size/\s.heap.IsRevIter I l ((items.size:Int) - 1 - ((0:Nat):Int))/\s.heap.IsList l items:=⟨nl _,by rw[show(items.size:Int) - 1 - ((0:Nat):Int)=(items.size:Int) - 1 by lia];show hit,hl⟩
 have hT:=hit.typeIs
 unfold Kl
 refine Aa (Ly hT ?_)
 have q1:Builtin.List.listSameRef (.ref S) (.ref I)=false:=by simp[Builtin.List.listSameRef,hSI]
 have q2:(Value.type "list_reverseiterator"==Value.type "list")=false:='d'
 have q3:(Value.type "list_reverseiterator"==Value.type "tuple")=false:='d'
 simp only[q1,q2,q3,Bool.or_false,Bool.false_eq_true,if_false]
 refine Aa (wpAny_pyIter_revIter hit ?_)
 have key:∀(h2:Uf) (c1 tk:Nat),(0<=items.size/\h2.IsRevIter I l ((items.size:Int) - 1 - ((0:Nat):Int))/\h2.IsList l items)->(∀b u,b≠S->s.heap.get? b=some u->h2.get? b=some u)->h2.get? S=some {cls:= .type "list",data:= .seq #[] c1}->
   codeAny (model prog w) A (.builtin "list.extend.loop" ⟨[.ref S,.ref I,res],[]⟩) R {s with heap:=h2,toks:=tk}:=by
  intro h2 c1 tk st2 k2 g2
  refine codeAny_extend_loopS W.toS hz S nf res items.size 0 _ #[] c1 rfl (nl _) st2 g2 (ItemsOf.nil _) fun s' acc c' mv hS' hacc=>?_
  rw[Moved.eq_with mv]
  refine hR s'.heap s'.toks acc c' hacc (fun b u hb hI e=>mv.heap b u ?_ (k2 b u hb e)) hS'
  intro hm
  rcases An.mp hm with z | z
  .exact hb z
  .exact hI (Am.mp z)
 refine Aa (Hi (Y06 hT ?_))
 refine wpAny_ite_split (fun _=>?_) fun _=>Ai ⟨plainId_quiet PySem.F.plain_extend_loop _,key _ c0 _ st0 (fun b u _ e=>e) hS⟩
 refine Aa (Lu (Aa ?_))
 change wpAny _ _ (updateSeq S (·.push .none) >>=fun _=>updateSeq S (·.pop)) _ _ _
 refine Aa (wpAny_updateSeq hS rfl ?_)
 have g2:=Dv (Kg (·.push Value.none)) hS rfl
 refine wpAny_updateSeq (hz:=by seq_fits) g2 rfl ?_
 have g3:=Dv (Kg (·.pop)) g2 rfl
 have far:∀b u,b≠S->s.heap.get? b=some u->((s.heap.update S (Kg (·.push Value.none))).update S (Kg (·.pop))).get? b=some u:=fun b u hb e=>(Dk _ _ (Au hb)).trans ((Dk _ _ (Au hb)).trans e)
 show Ai ⟨plainId_quiet PySem.F.plain_extend_loop _,key _ _ _ (W.frame 0 _ _ st0 fun b hb u e=>far b u (fun z=>nf (z ▸ hb)) e) far g3⟩
def Y09{I l S:Uc}{items:Array Ua}{R:Result->Ub->Prop}(G:A.handled=none)(x:s.heap.IsRevIter I l ((items.size:Int) - 1))(D:s.heap.IsList l items)(hz:items.size<=sizeLine)(t:l≠I)(k:S≠I)(j:S≠l)(z:s.heap.get? S=some {cls:= .type "list",data:= .seq #[]})
  (J:∀m q a g,ItemsOf (fun i v=>items[items.size - 1 - i]?=some v) a items.size->(∀b u,b≠S->b≠I->s.heap.get? b=some u->m.get? b=some u)->m.get? S=some {cls:= .type "list",dict:=none,data:= .seq a g,slots:=#[]}->R (.ok (.ret .none)) {s with heap:=m,toks:=q}):
  wpAny (model prog w) A.in1 (Builtin.«list.__init__» ⟨[.ref S,.ref I],[]⟩)
   (fun B n=>match B with | .done f=>R (.ok f) n | .again g=>g.quiet=true/\codeAny (model prog w) A g R n) (fun e n=>R (.error e) n) s:=by
 change wpAny _ _ (do let old <-Builtin.List.listItems (.ref S);Builtin.List.listUpdate (.ref S) (fun _=>#[]);letGo old.toList.reverse;Kl (.ref S) (.ref I) .none) _ _ s
 refine Aa ?_
 unfold Builtin.List.listItems
 refine Aa (Ib z rfl (Ai ?_))
 change wpAny _ _ (updateSeq S (fun _=>#[]) >>=fun _=>letGo (#[]:Array Ua).toList.reverse >>=fun _=>Kl (.ref S) (.ref I) .none) _ _ s
 refine Aa (wpAny_updateSeq z rfl ?_)
 have d:=Dv (Kg (fun _=>(#[]:Array Ua))) z rfl
 have c:∀b o,b≠S->s.heap.get? b=some o->(s.heap.update S (Kg (fun _=>(#[]:Array Ua)))).get? b=some o:=
  fun b o p e=>(Dk _ _ (Au p)).trans e
 refine Aa (wpAny_letGo ?_)
 let⟨C,r,h⟩:=D
 refine Yf5 G (x.at fun o e=>c _ o (Au k) e) ⟨C,c _ C (Au j) r,h⟩ hz t k j _ d fun m q a g H F y=>?_
 show J m q a g H (fun b o p K e=>F b o p K (c b o p e)) y
def Jz{I l:Uc}{items:Array Ua}{Q:VSP}(y:A.handled=none)(j:s.heap.IsRevIter I l ((items.size:Int) - 1))(t:s.heap.IsList l items)(hz:items.size<=sizeLine)(m:l≠I)
  (B:∀h' tk a c',ItemsOf (fun i v=>items[items.size - 1 - i]?=some v) a items.size->(∀b u,b≠I->s.heap.get? b=some u->h'.get? b=some u)->h'.get? s⁻¹=some {cls:= .type "list",dict:=none,data:= .seq a c',slots:=#[]}->Q (.ref s⁻¹) {s with heap:=h',toks:=tk}):
  wpAny (model prog w) A (call (.type "list") [.ref I]) Q E s:=by
 refine callType_codes (Q₁:=fun d c=>d= .ref s⁻¹/\c={s with heap:=s.heap.push {cls:= .type "list",data:= .seq #[]}}) PySem.F.called_list (PySem.F.typeCall_list_1 _) PySem.F.entry_list_init
  (code_list_new _ ⟨rfl,rfl⟩) fun d c f=>?_
 let⟨rfl,rfl⟩:=f
 have q:(s.heap.push {cls:= .type "list",data:= .seq #[]}).get? s⁻¹=some {cls:= .type "list",data:= .seq #[]}:=Aq _ rfl
 let⟨D,k,p⟩:=id j
 let⟨r,h,g⟩:=id t
 refine⟨⟨_,q,rfl⟩,PySem.F.args_list_init_2 _ _,Y09 (A:=A.in1) y (j.at fun o e=>Ah _ e) ⟨r,Ah _ h,g⟩ hz m (nq (Aj k)) (nq (Aj h)) q (fun h' tk a c' z x n=>?_)⟩
 show⟨rfl,B h' tk a c' z (fun b o C e=>x b o (nk (Aj e)) C (Ah _ e)) n⟩
end
end SW
namespace L3
open PySem PySem.Spec PyProof.Rows L2
section
variable{X:Cx}{pins:PLO}{σ:L2.St}{H:Hp}{s:Ub}
def Z03(m:Nat)(p l:Uc)(n:Nat):Uf->Prop:=fun h=>h.IsRevIter p l ((n:Int) - 1)/\m<=p/\l≠p
def del(H:Hp)(p:Uc):Hp:=fun b=>if b=p then none else H b
def Zx2{p S:Uc}{y:Uf->Prop}(I:Inv X pins σ H s)(f:H p=some (.ext y))(E:X.s₀⁻¹<=p)(k:∀b u,b≠p->s.heap.get? b=some u->h'.get? b=some u)(t:s⁻¹<=S)(j:Yc X.prog X.w (upd (del H p) S o) h' S o):Inv X pins σ (upd (del H p) S o) {s with heap:=h',toks:=t'}:=by
 have i:∀b,H b=none->b≠p:=fun b e z=>by subst z;rw[f] at e;cases e
 have B:H S=none:=I.hok.fresh t
 have h:∀b g,H b=some g->b≠p->upd (del H p) S o b=some g:=fun b g e n=>by
  rw[Z6 (fun z=>by subst z;rw[B] at e;cases e)]
  unfold del;rw[ng n];show e
 refine I.step (g':=s.gens) (d':=s.drawn) (ch:=[p]) ?_ (fun b o _ _ d e _=>k b o ↥d e) (fun b o _ _ d e _=>⟨o.slots,k b o ↥d e⟩) (fun b o d e n=>?_) (fun b o d e=>⟨o,k b o ↥d e⟩) (fun b A e=>h b _ e fun z=>by subst z;rw[f] at e;cases e) (fun b o u e=>h b _ e fun z=>by subst z;rw[f] at e;cases e) (fun b K e=>⟨#[],by rw[h b _ e fun z=>by subst z;rw[f] at e;cases e];simp⟩) ?_ ?_ I.bare
 .intro b d
  cases Am.mp d
  show⟨.inr E,fun z=>i _ I.free z.symm,fun x c e z=>i _ (I.freeC x c e) z,fun q C z=>i _ (I.pin q C).2.1 z⟩
 .rw[Z6 (nk (ni (Aj e) t))]
  unfold del
  split
  .rfl
  .exact n
 .rintro m ⟨o,F,G,D,r⟩
  show⟨o,F,G,k _ _ (i _ I.free) D,r⟩
 .intro a g e
  by_cases l:a=S
  .subst l
   rw[Zl] at e
   cases e
   show j
  rw[Z6 l] at e
  have v:a≠p:=fun z=>by subst z;unfold del at e;rw[nh rfl] at e;cases e
  have J:H a=some g:=by unfold del at e;rw[ng v] at e;show e
  refine(I.hok a g J).stay (fun b u d q=>k b u (fun z=>?_) q) (fun b d=>h b _ d fun z=>?_) fun b A d=>h b _ d fun z=>?_
  .subst z
   rcases d with z | z
   .exact v z.symm
   .rw[f] at z;cases z
  .subst z;rw[f] at d;cases d
  .subst z;rw[f] at d;cases d
def rRev(X:Cx):LV->Hp->VK->Prop:=fun b H Q=>∃l a,b=[V.ref l]/\SqL X.K H l a/\∀p,H p=none->l≠p->Q (.ref p) (upd H p (.ext (Z03 X.s₀⁻¹ p l a.length)))
def Y19:V2 X (.type "reversed") (rRev X):=by
 intro pins s σ H y z Q I r h
 let⟨l,d,rfl,v,q⟩:=h
 let⟨u,rfl,j⟩:=J3 r
 cases j
 let⟨c,i,m,A⟩:=I.list v
 have g:=m.isList
 have f:l<s⁻¹:=by let⟨o,p,_⟩:=g;show Aj p
 have t:c.toArray.size=d.length:=by rw[Al,i.length]
 refine call_reversed_list g ?_
 have n:(s.heap.push (revObj l ((c.toArray.size:Int) - 1))).IsRevIter s⁻¹ l ((d.length:Int) - 1):=⟨_,Aq _ rfl,rfl,by rw[<-t];rfl⟩
 refine⟨.ref _,_,I.laid (a:=s⁻¹) (o:= .ext (Z03 X.s₀⁻¹ s⁻¹ l d.length)) (t':=s.toks) (fun b o e=>Ah _ e) (nc _) ⟨⟨n,I.sz,nk f⟩,⟨_,Aq _ rfl⟩,fun C B zz61 k=>by let⟨x,w⟩:=zz61;show⟨x.at k,w⟩⟩,rfl,q _ (I.hok.fresh (nc _)) (nk f)⟩
def Yt5(X:Cx):LV->Hp->VK->Prop:=fun b H Q=>∃p l a,b=[V.ref p]/\H p=some (.ext (Z03 X.s₀⁻¹ p l a.length))/\SqL X.K H l a/\∀S,H S=none->Q (.ref S) (upd (del H p) S (.lst a.reverse))
def Zb7(F:X.calm=true):V2 X (.type "list") (Yt5 X):=by
 intro pins s σ H J K Q I r h
 let⟨p,l,m,rfl,x,E,q⟩:=h
 let⟨u,rfl,A⟩:=J3 r
 cases A
 let⟨⟨C,D,f⟩,_,_⟩:=I.hok p _ x
 let⟨b,n,B,t⟩:=I.list E
 have y:b.toArray.size=m.length:=by rw[Al,n.length]
 refine SW.Jz (I.ok.hd F) (by rw[y];show C) B.isList (by rw[y];show t) f fun L z a c j k g=>?_
 have e:a=a.toList.toArray:=by simp
 rw[e] at g
 refine⟨.ref _,_,Zx2 (t':=z) I x D k (nc _) (o:= .lst m.reverse) ⟨by rw[Ij];show t,a.toList,c,?_,g⟩,rfl,q _ (I.hok.fresh (nc _))⟩
 have G:a.toList=b.reverse:=by
  refine List.ext_getElem? fun i=>?_
  by_cases d:i<b.length
  .obtain⟨v,w⟩:∃v,a.toList[i]?=some v:=⟨_,Ag (by rw[Kc,j.1];simpa using d)⟩
   have:=j.2 i v (by rw[<-Array.getElem?_toList];show w)
   rw[w,List.getElem?_reverse d,<-this]
   simp
  .rw[Dh (by rw[Kc,j.1];simpa using d),Dh ↥d]
 rw[G]
 show n.reverse
end
section
variable{X:Cx}{pins:PLO}{σ:L2.St}{H:Hp}{s:Ub}
def Gm{E:VSP}{f t:Uc}(h:t≠f):∀(n i:Nat) (s:Ub) (Q:LW->Ub->Prop),s.heap.IsListIter f t i->s.heap.IsList t items->i+n<=items.size->
  (∀h',h'.IsListIter f t (i+n)->Hv f s.heap h'->Q ((items.toList.drop i).take n) {s with heap:=h'})->wpAny (model prog w) A (draw (.ref f) n) Q E s
 | 0,i,s,Q,e,_,_,k=>by
  change wpAny _ _ (pure []) Q E s
  show Ai (by simpa using k s.heap e (Hv.refl ..))
 | n+1,i,s,Q,e,m,o,k=>by
  have j:i<items.size:='o'
  change wpAny _ _ (pyNext (.ref f) >>=_) Q E s
  refine Aa (wpAny_pyNext_list_item e m (x:=items[i]) (by simp[j]) fun l c a=>?_)
  refine Aa (Hi (Gm h n (i+1) _ _ c (m.extBut a.extBut h) 'o' fun g b d=>Ai ?_))
  have p:items.toList.drop i=items[i]::items.toList.drop (i+1):=by simp[Dz,j]
  have:=k g (by rw[show i+(n+1)=i+1+n by lia];show b) (a.trans d)
  rw[p,List.take_succ_cons] at this
  show this
def Rj{E:VSP}{s:Ub}{t:Uc}(n:A.handled=none)(i:s.heap.IsList t items)
  (p:∀h',Heap.ExtBut s⁻¹ s.heap h'->Q items.toList {s with heap:=h'}):wpAny (model prog w) A (unpackItems (.ref t) items.size none) Q E s:=by
 have j:t≠s⁻¹:=by let⟨o,m,_⟩:=i;show nk (Aj m)
 unfold unpackItems
 refine Aa ?_
 .unfold notIterableAtAll
  refine Aa (wpAny_specialOf i.typeIs slot_list_iter.lookup ?_)
  refine Ai ?_
  simp only[Bool.false_eq_true,if_false]
  refine Aa (Hi (wpAny_pyIter_list i ?_))
  refine Aa (Hi (Gm j items.size 0 _ _ ⟨_,Aq _ rfl,rfl,rfl⟩ (i.push _) 'o' fun h c a=>?_))
  have k:List.take items.size (List.drop 0 items.toList)=items.toList:=by
   rw[List.drop_zero];show List.take_of_length_le (by simp)
  rw[k]
  rw[ng (by simp)]
  have d:h.IsList t items:=(i.push _).extBut a.extBut j
  refine Aa (Hi (wpAny_pyNext_list_end n c d (by simp) fun g f=>?_))
  simp only[Option.isSome_none,Bool.false_eq_true,if_false]
  refine Ai (p g fun b o l e=>f b o l (a.extBut b o l (Ah _ e)))
def gLst(K:Ab)(n:Nat)(t:TGs):TG:=fun v σ H Q=>∃a b,v= .ref a/\(SqT K H a b\/SqL K H a b)/\b.length=n/\t b σ H Q
def Yq8{k:Nat}{t:TGs}{n:Nat}(q:X.calm=true)(h:PGs X es t)
  (m:(assignEach es X.env).length=n:=by rfl) (c:(assignEach es X.env).findIdx? (·.1)=none:=by rfl):PG X (.Tuple es k pos) (gLst X.K n t):=by
 intro pins s σ H v u Q I r f
 let⟨a,j,w,d,p,f⟩:=f
 rcases d with d | d
 .exact Y39 q h m c pins s σ H v u Q I r ⟨a,j,w,d,p,f⟩
 subst w
 cases r
 let⟨g,l,y,B⟩:=I.list d
 have i:g.toArray.size=n:=by rw[Al,<-l.length];show p
 rw[PyProof.Rows.assign_Tuple]
 refine Aa (Kb ?_)
 unfold unpack
 rw[m,c,<-i]
 refine Aa (Hi (Rj (I.ok.hd q) y.isList fun z x=>?_))
 have A:Inv X pins σ H {s with heap:=z}:=I.kept (t':=s.toks) fun b o e=>x b o (nk (Aj e)) e
 show h pins _ σ H j _ Q A ↥l f
def Zx9(I:Inv X pins σ H s)(o:X.A.units+64<cLine)(c:Bool){p b:Uc}(m:SqL X.K H p vs)(n:SqL X.K H b [])(q:Q (.bl (if c then !vs.isEmpty else vs.isEmpty)) H):
  ⇑X (compareOp (if c then .NotEq else .Eq) (.ref p) (.ref b)) (EP X pins σ Q) X.xe s:=by
 let⟨g,r,d,_⟩:=I.list m
 let⟨f,k,a,_⟩:=I.list n
 have l:f=[]:=by cases k;rfl
 subst l
 cases vs with
 | nil=>
  cases r
  cases c with
  | true=>show SeqAt.RcNeAt.lists (e:=fun _=>true) d.isList a.isList rfl 'o' (fun j h=>absurd h (Nat.not_lt_zero _)) _ _ _ _ ⟨.bl _,H,I,rfl,q⟩
  | false=>show SeqAt.RcAt.lists (e:=fun _=>true) d.isList a.isList rfl 'o' (fun j h=>absurd h (Nat.not_lt_zero _)) _ _ _ _ ⟨.bl _,H,I,rfl,q⟩
 | cons v vs=>
  have i:(g.toArray.size !=([]:LW).toArray.size)=true:=by
   cases r
   rfl
  cases c with
  | true=>show SeqAt.RcNeAt.lists_lengths d.isList a.isList i 'o' _ _ _ _ ⟨.bl _,H,I,rfl,q⟩
  | false=>show SeqAt.RcAt.lists_lengths d.isList a.isList i 'o' _ _ _ _ ⟨.bl _,H,I,rfl,q⟩
def Yf6(I:Inv X pins σ H s)(L:X.A.units+64<cLine)(c:Bool){a b:Uc}(F:SqT X.K H a vs)(E:SqT X.K H b ys)(v:vs.all Xc=true)(t:ys.all Xc=true)(q:Q (.bl (if c then !eqVs vs ys else eqVs vs ys)) H):
  ⇑X (compareOp (if c then .NotEq else .Eq) (.ref a) (.ref b)) (EP X pins σ Q) X.xe s:=by
 let⟨f,m,l,_⟩:=I.tuple F
 let⟨d,g,k,_⟩:=I.tuple E
 have D:=m.length
 have C:=g.length
 have o:∀j (r:j<f.toArray.size) (p:j<d.toArray.size),Dw X.A.in1 s f.toArray[j] d.toArray[j] (eqV (vs.getD j .non) (ys.getD j .non)):=fun j r p=>by
  have i:j<vs.length:=by rw[Al] at r;lia
  have h:j<ys.length:=by rw[Al] at p;lia
  let⟨u,J,B⟩:=m.get (Ag i)
  let⟨w,G,z⟩:=g.get (Ag h)
  have y:f.toArray[j]=u:=by have:=(Ac.mp J).2;simpa using this
  have x:d.toArray[j]=w:=by have:=(Ac.mp G).2;simpa using this
  rw[y,x,Hb,Hb,Ag i,Ag h]
  rw[Hm] at v t
  show Z33 B z (v _ (Hz i)) (t _ (Hz h))
 have n:((Ik (min f.toArray.size d.toArray.size)).all (fun j=>eqV (vs.getD j .non) (ys.getD j .non))&&f.toArray.size==d.toArray.size)=eqVs vs ys:=by
  unfold eqVs
  rw[Al,Al,D,C]
 cases c with
 | true=>show SeqAt.RcNeAt.tuples (e:=fun j=>eqV (vs.getD j .non) (ys.getD j .non)) l k 'o' o _ _ _ _ ⟨.bl _,H,I,rfl,by rw[n];show q⟩
 | false=>show SeqAt.RcAt.tuples (e:=fun j=>eqV (vs.getD j .non) (ys.getD j .non)) l k 'o' o _ _ _ _ ⟨.bl _,H,I,rfl,by rw[n];show q⟩
end
end L3
namespace L3
open PySem PySem.Spec PyProof.Rows L2 PySem.Builtin PySem.Builtin.Str
end L3
namespace Tt
open PySem PySem.Builtin PySem.Builtin.Str
abbrev L(x:Str):LQ:=x.cps.toList
end Tt
namespace L3
open PySem PySem.Spec PyProof.Rows L2
section
variable{prog:Ud}{w:Ue}{K:Type}[DecidableEq K]{knd:HeapKind prog w K}{A:Around}{E:VSP}{s:Ub}
def Y98{d a:Uc}{xs:List (K×Uc×Ua)}{k:K}{dflt:Ua}{Q:VSP}(hu:knd.room A)(hkey:knd.is s.heap k a)(hm:s.heap.DictOfH knd d xs)
  (h1:∀p,atKey xs k=some p->Q p.2 {s with toks:=s.toks+knd.draws k})
  (h2:atKey xs k=none->∀h',h'.DictOfH knd d (storedH xs k a dflt)->Hv d s.heap h'->Q dflt {s with heap:=h',toks:=s.toks+knd.draws k})
  (hsz:xs.length<=sizeLine):wpAny (model prog w) A (dictSetDefault d (.ref a) dflt) Q E s:=by
 let⟨o,es,ep,ho,hc,hd,he,his,hn⟩:=hm
 unfold dictSetDefault
 try with_reducible refine Hi ?_
 refine Aa (knd.pyHash hu hkey (Aa (wpAny_dictFind_heap (s:={s with toks:=s.toks+knd.draws k}) hu hkey ho hd he his hn ?_ ?_)))
 .intro hno
  have hnot:k∉xs.map (·.1):=not_mem_keys_of_get hno
  refine Aa (Lu (Aa (wpAny_updateDictKeys (hz:=by have e:=size_of_entries he;lia) (s:={s with toks:=s.toks+knd.draws k}) ho hd (Ai (h2 (atKey_none_of_get hno) _ ⟨_,_,ep+1,Dv _ ho (Obj.isFreed_of_dict (Obj.data_mapDictKeys hd _)),
   hc.mapDictKeys _,Obj.data_mapDictKeys hd _,?_,?_,?_⟩ (Ll ..))))))
  .rw[storedH_new (atKey_none_of_get hno)]
   simp[he,entryOfKey]
  .rw[storedH_new (atKey_none_of_get hno)]
   intro x hx
   rcases Az.mp hx with hx | hx
   .exact knd.keeps (his x hx) ho hd (Ll ..)
   .simp only[Am] at hx
    subst hx
    show knd.keeps hkey ho hd (Ll ..)
  .rw[storedH_new (atKey_none_of_get hno)]
   rw[Aw,List.nodup_append]
   refine⟨hn,by simp,?_⟩
   intro x hx y hy
   simp only[De,Iu,Am] at hy
   subst hy
   show fun e=>hnot (e ▸ hx)
 .intro j p hj
  refine Aa (wpAny_dictEntries (s:={s with toks:=s.toks+knd.draws k}) ho hd ?_)
  rw[entry_at he j,hj]
  show Aa (Lu (Ai (h1 _ (atKey_of_get hn hj))))
def Gb(knd:HeapKind prog w K)(d a:Uc)(hd:(d==sysModules)=false)(dflt:Ua):
  MeetsIn prog w (Builtin.«dict.setdefault» ⟨[.ref d,.ref a,dflt],[]⟩) (fun A R s=>knd.room A.in1/\∃k xs,knd.is s.heap k a/\s.heap.DictOfH knd d xs/\xs.length<=sizeLine/\
   (∀p,atKey xs k=some p->R (.ok (.ret p.2)) {s with toks:=s.toks+knd.draws k})/\
   (atKey xs k=none->∀h',h'.DictOfH knd d (storedH xs k a dflt)->Hv d s.heap h'->R (.ok (.ret dflt)) {s with heap:=h',toks:=s.toks+knd.draws k})):=
 .of_wp fun A R s zy3=>by
  let⟨hu,k,xs,hkey,hm,hz,h1,h2⟩:=zy3
  unfold Builtin.«dict.setdefault»
  refine Aa ?_
  unfold Builtin.Dict.keyAndDefault
  refine Aa (wpAny_notOrdered_dict hm.typeIs ?_)
  change wpAny _ _ (pure (d,Value.ref a,some dflt)) _ _ s
  refine Ai ?_
  change wpAny _ _ (if (d==sysModules)=true then _ else(dictSetDefault d (.ref a) dflt >>=_)) _ _ s
  rw[ng (by rw[hd];show Bf9)]
  show Aa (Y98 (hsz:=hz) hu hkey hm (fun p hp=>Ai ⟨p.2,rfl,h1 p hp⟩) fun hn h' hm' hs'=>Ai ⟨dflt,rfl,h2 hn h' hm' hs'⟩)
end
section
variable{X:Cx}{pins:PLO}{σ:L2.St}{H:Hp}{s:Ub}{a b:Uc}{d:V}{r:Ua}{A:Around}{E:VSP}
def Zt4{k:List Key}(hu:A.units+1<cLine)(I:Inv X pins σ H s)(e:H a=some (.dT kvs))(eb:H b=some (.tup (k.map kV)))(hl:kvs.length<sizeLine)(rd:RelV d r)
  (h1:∀v w' s',valV kvs k=some v->Inv X pins σ H s'->RelV v w'->Q w' s')
  (h2:∀s',valV kvs k=none->Inv X pins σ (upd H a (.dT (putK kvs k d))) s'->Q r s'):
  wpAny (model X.prog X.w) A (call (.builtin "dict.setdefault") [.ref a,.ref b,r]) Q E s:=by
 let⟨z,hd,xs,rel,dd⟩:=Yo7 I.hok e
 have hz:xs.length<=sizeLine:=by rw[<-Paired.length rel];show z
 have hp:(putK kvs k d).length<=sizeLine:=by have:=X5 kvs k d;lia
 refine call_meetsIn PySem.F.slot_dict_setdefault dd.typeIs PySem.F.entry_dict_setdefault (PySem.F.args_dict_setdefault_3 _ _ _) (Gb (tupleKind (Zp X.prog X.w)) a b hd r) ⟨Kk hu,k,xs,Ql I.hok eb,dd,hz,fun p hp=>?_,fun hn h' dd' hs=>?_⟩
 .have rv:=rel.val k
  cases l:valV kvs k with
  | none=>rw[l] at rv;rw[hp] at rv;show absurd (RelO.none_of rv) (by simp)
  | some v=>
   rw[l] at rv
   let⟨w',hw,rw'⟩:=RelO.some_of rv
   rw[hp] at hw
   cases hw
   show h1 v _ _ l (I.tok _) rw'
 .have rv:=rel.val k
  have l:valV kvs k=none:=by
   cases l:valV kvs k with
   | none=>rfl
   | some v=>
    rw[l] at rv
    let⟨w',hw,rw'⟩:=RelO.some_of rv
    rw[hn] at hw
    cases hw
  refine h2 _ l ?_
  let⟨q,es,ep,hq,g2,g3,g4,_,g5⟩:=dd'
  refine Qd I (by rw[e];show Hu) hs ⟨q,hq⟩ ⟨hp,hd,_,(rel.put k eb rd).keeps fun c ys ec=>?_,q,es,ep,hq,g2,g3,g4,g5⟩
  rw[Z6 (Ys6 ec e (fun z=>nomatch z))]
  show ec
end
end L3
namespace ZT
open PySem PyProof.Rows
structure Nx(P:Ud)(w:Ue)(i l:Uc)(its:Array Ua)(St:Nat->Uf->Prop):Prop where
 obj:∀k h,St k h->∃o,h.get? i=some o/\o.cls≠ .type "zip"/\∀v,o.data≠ .cell v
 stay:∀k h h',St k h->(∀b o,b=i\/b=l->h.get? b=some o->h'.get? b=some o)->St k h'
 item:∀{A:Around} {E:VSP} {s:Ub} {k:Nat} {x:Ua} {Q:VSP},St k s.heap->its[k]?=some x->(∀h',St (k+1) h'->Hv i s.heap h'->Q x {s with heap:=h'})->wpAny (model P w) A (Hd (.ref i)) Q E s
 done:∀{A:Around} {E:VSP} {s:Ub} {k:Nat} {Q:VSP},A.handled=none->St k s.heap->its[k]?=none->(∀h' e,(∀c o,c≠i->s.heap.get? c=some o->h'.get? c=some o)->(∃o,h'.get? e=some o/\o.cls= .type "StopIteration")->E (.ref e) {s with heap:=h'})->wpAny (model P w) A (Hd (.ref i)) Q E s
section
variable{prog:Ud}{w:Ue}{A:Around}{E:VSP}{s:Ub}
def Nx.tuple{i l:Uc}(p:l≠i)(its:Array Ua):Nx prog w i l its (fun k h=>h.IsTupleIter i l k/\h.IsTuple l its) where
 obj:=fun k h zz62=>by let⟨⟨o,e,c,d⟩,_⟩:=zz62;show⟨o,e,by rw[c];decide,fun v z=>by rw[d] at z;cases z⟩
 stay:=fun k h D zz63 q=>by let⟨⟨o,e,r⟩,⟨u,M,G⟩⟩:=zz63;show⟨⟨o,q i o (.inl rfl) e,r⟩,⟨u,q l u (.inr rfl) M,G⟩⟩
 item:=by
  rintro A E s k x Q ⟨a,b⟩ n q
  let⟨o,g,C,f⟩:=id a
  let⟨H,j,t,I,m⟩:=id b
  unfold Hd
  refine Aa (Ie (name:=Str.ofString "__next__") a.typeIs F.slot_tuple_iterator_next (La F.slot_tuple_iterator_next a.typeIs F.entry_tuple_iterator_next ?_ (F.args_tuple_iterator_next_1 _)))
  change wpAny _ _ (field (.ref i) 0 >>=_) _ _ s
  refine Aa (Fd g f (x:= .ref l) rfl ?_)
  change wpAny _ _ (if (Value.ref l==Value.none)=true then _ else _) _ _ s
  rw[ng (by show Bf9)]
  change wpAny _ _ (field (.ref i) 1 >>=_) _ _ s
  refine Aa (Fd g f (x:= .int k 0) rfl ?_)
  change wpAny _ _ (seqItems? (.ref l) >>=_) _ _ s
  refine Aa (Ib j m ?_)
  simp only[Int.toNat_natCast,n]
  have B:=Ll s.heap i (Kt (·.setIfInBounds 1 (rawInt ((k:Int)+1))))
  refine Aa (Me g f (by simp) (Ai ⟨x,rfl,Ai (q _ ⟨?_,b.extBut B.extBut p⟩ B)⟩))
  show⟨_,Dv _ g (Kr (Im f _)),(Obj.cls_mapFields ..).trans C,by rw[Im f];simp[rawInt]⟩
 done:=by
  rintro A E s k Q K ⟨a,b⟩ n q
  let⟨o,g,C,f⟩:=id a
  let⟨H,j,t,I,m⟩:=id b
  unfold Hd
  refine Aa (Ie (name:=Str.ofString "__next__") a.typeIs F.slot_tuple_iterator_next (La F.slot_tuple_iterator_next a.typeIs F.entry_tuple_iterator_next ?_ (F.args_tuple_iterator_next_1 _)))
  change wpAny _ _ (field (.ref i) 0 >>=_) _ _ s
  refine Aa (Fd g f (x:= .ref l) rfl ?_)
  change wpAny _ _ (if (Value.ref l==Value.none)=true then _ else _) _ _ s
  rw[ng (by show Bf9)]
  change wpAny _ _ (field (.ref i) 1 >>=_) _ _ s
  refine Aa (Fd g f (x:= .int k 0) rfl ?_)
  change wpAny _ _ (seqItems? (.ref l) >>=_) _ _ s
  refine Aa (Ib j m ?_)
  simp only[Int.toNat_natCast,n]
  refine Aa (Lu (Aa (Me g f (by simp) ?_)))
  refine SW.Y08 (A:=A.in1) K fun D e J L=>q D e (fun c u y z=>J c u ((Ll ..).extBut c u y z)) L
structure Ap(z TI TO i1 i2 l1 l2:Uc):Prop where
 z1:TI≠z/\TO≠z/\i1≠z/\i2≠z/\l1≠z/\l2≠z
 z2:TI≠TO/\i1≠TO/\i2≠TO/\l1≠TO/\l2≠TO
 z3:TI≠i1/\i2≠i1/\l1≠i1/\l2≠i1
 z4:TI≠i2/\l1≠i2/\l2≠i2
variable{z TI TO i1 i2 l1 l2:Uc}{xs ys:Array Ua}{S1 S2:Nat->Uf->Prop}
def J8{T:Uc}{a b x:Ua}{k:Nat}{Q:Unit->Ub->Prop}(c:IsPair s.heap T a b)
  (h:∀h',h'.get? T=some {cls:= .type "tuple",data:= .seq ((#[a,b]:Array Ua).setIfInBounds k x)}->Hv T s.heap h'->Q () {s with heap:=h'}):wpAny (model prog w) A (updateSeq T (·.setIfInBounds k x)) Q E s:=wpAny_updateSeq_pair c h
def Yw0{k:Nat}{x y a b:Ua}{Q:VSP}(D:Ap z TI TO i1 i2 l1 l2)(i:Nx prog w i1 l1 xs S1)(h:Nx prog w i2 l2 ys S2)
  (hz:IsZip s.heap z TI TO .none) (hI:IsPair s.heap TI (.ref i1) (.ref i2)) (hO:IsPair s.heap TO a b) (h1:S1 k s.heap) (h2:S2 k s.heap) (hx:xs[k]?=some x) (hy:ys[k]?=some y)
  (q:∀h',IsZip h' z TI TO (rawInt s⁻¹)->IsPair h' TO x y->S1 (k+1) h'->S2 (k+1) h'->IsPair h' s⁻¹ x y->h'.objs.size=s⁻¹+1->(∀c o,c≠z->c≠TO->c≠i1->c≠i2->s.heap.get? c=some o->h'.get? c=some o)->Q (.ref s⁻¹) {s with heap:=h'}):
  wpAny (model prog w) A (Builtin.«zip.__next__» ⟨[.ref z],[]⟩) (fun W s'=>∃v,W= .done (.ret v)/\Q v s') E s:=by
 let⟨⟨d1,B,d3,d4,d5,d6⟩,⟨e1,e2,e3,e4,e5⟩,⟨f1,f2,f3,f4⟩,g1,g2,g3⟩:=D
 change wpAny _ _ (field (.ref z) 2 >>=_) _ _ _
 refine Aa (Fd (x:= .bool false) hz rfl rfl ?_)
 change wpAny _ _ (field (.ref z) 3 >>=_) _ _ _
 refine Aa (Fd (x:= .ref TI) hz rfl rfl (Aa (Ib hI rfl ?_)))
 change wpAny _ _ (Ic (.ref z) >>=_) _ _ _
 refine Aa ?_
 unfold Ic
 refine Aa (Fd (x:= .none) hz rfl rfl (Ai ?_))
 simp only[if_true]
 refine Aa (Lu (Aa (Fd (x:= .ref TO) hz rfl rfl (Aa (Lr hz (by simp) fun K H p=>?_)))))
 replace H:IsZip K z TI TO .ellipsis:=H
 refine Aa ?_
 simp only[List.zipIdx_cons,List.zipIdx_nil,Lq,List.forIn_nil]
 refine Aa (Aa (wpAny_onRaise ?_))
 change wpAny _ _ (Hd (.ref i1) >>=_) _ _ _
 have V:S1 k K:=i.stay _ _ _ h1 fun c o d e=>p.extBut c o (by rcases d with rfl | rfl<;>assumption) e
 have P:S2 k K:=h.stay _ _ _ h2 fun c o d e=>p.extBut c o (by rcases d with rfl | rfl<;>assumption) e
 refine Aa (i.item V hx fun hb U n=>Ai ?_)
 have Ob:IsPair hb TO a b:=n.extBut _ _ (Au e2) (p.extBut _ _ B hO)
 have O:S2 k hb:=h.stay _ _ _ P fun c o d e=>n.extBut c o (by rcases d with rfl | rfl<;>assumption) e
 refine Aa (Ib Ob rfl (Aa (J8 Ob fun d Z m=>?_)))
 replace Z:IsPair d TO x b:=Z
 refine Aa (wpAny_letGo (Ai ?_))
 refine Aa (Aa (wpAny_onRaise ?_))
 change wpAny _ _ (Hd (.ref i2) >>=_) _ _ _
 have N:S2 k d:=h.stay _ _ _ O fun c o d e=>m.extBut c o (by rcases d with rfl | rfl<;>assumption) e
 have T:S1 (k+1) d:=i.stay _ _ _ U fun c o d e=>m.extBut c o (by rcases d with rfl | rfl<;>assumption) e
 refine Aa (h.item N hy fun hd M l=>Ai ?_)
 have Od:IsPair hd TO x b:=l.extBut _ _ (Au e3) Z
 have S:S1 (k+1) hd:=i.stay _ _ _ T fun c o d e=>l.extBut c o (by rcases d with rfl | rfl;show Au f2;assumption) e
 refine Aa (Ib Od rfl (Aa (J8 Od fun f F j=>?_)))
 replace F:IsPair f TO x y:=F
 refine Aa (wpAny_letGo (Ai (Ai ?_)))
 refine Aa (Ib F rfl (Aa (wpAny_newTuple ?_)))
 have R:S1 (k+1) f:=i.stay _ _ _ S fun c o d e=>j.extBut c o (by rcases d with rfl | rfl<;>assumption) e
 have L:S2 (k+1) f:=h.stay _ _ _ M fun c o d e=>j.extBut c o (by rcases d with rfl | rfl<;>assumption) e
 have sz:f.objs.size=s⁻¹:=by rw[j.1,l.1,m.1,n.1,p.1]
 have ze:IsZip f z TI TO .ellipsis:=j.extBut _ _ (Au B) (l.extBut _ _ (Au d4) (m.extBut _ _ (Au B) (n.extBut _ _ (Au d3) H)))
 have ke:∀c o,c≠z->c≠TO->c≠i1->c≠i2->s.heap.get? c=some o->f.get? c=some o:=fun c o g C Y X e=>
  j.extBut _ _ C (l.extBut _ _ X (m.extBut _ _ C (n.extBut _ _ Y (p.extBut _ _ g e))))
 have lz:z<f.objs.size:=Aj ze
 change wpAny _ _ (Builtin.SmallTypes.ownedTupleHandOut (.ref z) (.ref f.objs.size) >>=_) _ _ _
 refine Aa ?_
 unfold Builtin.SmallTypes.ownedTupleHandOut
 have zf:IsZip (f.push {cls:= .type "tuple",data:= .seq #[x,y]}) z TI TO .ellipsis:=Ah _ ze
 refine Aa (Lr zf (by simp) fun hg G J=>?_)
 replace G:IsZip hg z TI TO (rawInt f.objs.size):=G
 refine Lr G (by simp) fun r t I=>?_
 replace t:IsZip r z TI TO (rawInt f.objs.size):=t
 have u:∀c o,c≠z->f.get? c=some o->r.get? c=some o:=fun c o g e=>I.extBut _ _ g (J.extBut _ _ g (Ah _ e))
 have Th:IsPair r f.objs.size x y:=I.extBut _ _ (nq lz) (J.extBut _ _ (nq lz) (Aq _ rfl))
 have zs:r.objs.size=f.objs.size+1:=by rw[I.1,J.1,Ia]
 rw[sz] at t Th zs
 refine Ai ⟨_,rfl,?_⟩
 change Q (.ref f.objs.size) _
 rw[sz]
 show q r t (u _ _ B F) (i.stay _ _ _ R fun c o d e=>u c o (by rcases d with rfl | rfl<;>assumption) e) (h.stay _ _ _ L fun c o d e=>u c o (by rcases d with rfl | rfl<;>assumption) e) Th zs fun c o g C Y X e=>u c o g (ke c o g C Y X e)
def Yz2{k:Nat}{a b:Ua}{Q:Fin->Ub->Prop}(P:A.handled=none)(D:Ap z TI TO i1 i2 l1 l2)(K:Nx prog w i1 l1 xs S1)(u:Nx prog w i2 l2 ys S2)
  (hz:IsZip s.heap z TI TO .none) (hI:IsPair s.heap TI (.ref i1) (.ref i2)) (Z:IsPair s.heap TO a b) (h1:S1 k s.heap) (f:S2 k s.heap) (i:xs[k]?=none\/ys[k]?=none)
  (q:∀h' e,(∀c o,c≠z->c≠TO->c≠i1->c≠i2->s.heap.get? c=some o->h'.get? c=some o)->(∃o,h'.get? e=some o/\o.cls= .type "StopIteration")->E (.ref e) {s with heap:=h'}):
  wpAny (model prog w) A (Builtin.«zip.__next__» ⟨[.ref z],[]⟩) Q E s:=by
 let⟨⟨d1,S,R,d4,d5,d6⟩,⟨e1,e2,e3,e4,e5⟩,⟨f1,f2,f3,f4⟩,g1,g2,g3⟩:=D
 change wpAny _ _ (field (.ref z) 2 >>=_) _ _ _
 refine Aa (Fd (x:= .bool false) hz rfl rfl ?_)
 change wpAny _ _ (field (.ref z) 3 >>=_) _ _ _
 refine Aa (Fd (x:= .ref TI) hz rfl rfl (Aa (Ib hI rfl ?_)))
 change wpAny _ _ (Ic (.ref z) >>=_) _ _ _
 refine Aa ?_
 unfold Ic
 refine Aa (Fd (x:= .none) hz rfl rfl (Ai ?_))
 simp only[if_true]
 refine Aa (Lu (Aa (Fd (x:= .ref TO) hz rfl rfl (Aa (Lr hz (by simp) fun j p h=>?_)))))
 replace p:IsZip j z TI TO .ellipsis:=p
 refine Aa ?_
 simp only[List.zipIdx_cons,List.zipIdx_nil,Lq,List.forIn_nil]
 refine Aa (Aa (wpAny_onRaise ?_))
 change wpAny _ _ (Hd (.ref i1) >>=_) _ _ _
 have l:S1 k j:=K.stay _ _ _ h1 fun c o d e=>h.extBut c o (by rcases d with rfl | rfl<;>assumption) e
 have H:S2 k j:=u.stay _ _ _ f fun c o d e=>h.extBut c o (by rcases d with rfl | rfl<;>assumption) e
 have m:∀(f:Uf) (e:Uc),IsZip f z TI TO .ellipsis->(∀c o,c≠z->c≠TO->c≠i1->c≠i2->s.heap.get? c=some o->f.get? c=some o)->(∃o,f.get? e=some o/\o.cls= .type "StopIteration")->wpAny (model prog w) A (setField (.ref z) 0 .none) (fun _ V=>E (.ref e) V) E {s with heap:=f}:=by
  rintro f e L W ⟨o,B,d⟩
  refine Lr L (by simp) fun h3 _ M=>q h3 e (fun c o g J n I x=>M.extBut _ _ g (W c o g J n I x)) ⟨o,M.extBut _ _ ?_ B,d⟩
  rintro rfl
  rw[L] at B
  cases B
  show absurd (show Value.type "zip"=Value.type "StopIteration" from d) 'd'
 cases y:xs[k]? with
 | none=>
  refine Aa (K.done (s:={s with heap:=j}) P l y fun t e O C=>?_)
  show m t e (O _ _ (Au R) p) (fun c o g _ n _ x=>O _ _ n (h.extBut _ _ g x)) C
 | some x=>
  have X:ys[k]?=none:=i.resolve_left (by rw[y];intro z;cases z)
  refine Aa (K.item (s:={s with heap:=j}) l y fun t z0 r=>Ai ?_)
  have T:IsPair t TO a b:=r.extBut _ _ (Au e2) (h.extBut _ _ S Z)
  have G:S2 k t:=u.stay _ _ _ H fun c o d e=>r.extBut c o (by rcases d with rfl | rfl<;>assumption) e
  refine Aa (Ib T rfl (Aa (J8 T fun d Oc v=>?_)))
  refine Aa (wpAny_letGo (Ai ?_))
  refine Aa (Aa (wpAny_onRaise ?_))
  change wpAny _ _ (Hd (.ref i2) >>=_) _ _ _
  have F:S2 k d:=u.stay _ _ _ G fun c o d e=>v.extBut c o (by rcases d with rfl | rfl<;>assumption) e
  have U:IsZip d z TI TO .ellipsis:=v.extBut _ _ (Au S) (r.extBut _ _ (Au R) p)
  refine Aa (u.done (s:={s with heap:=d}) P F X fun Y e N C=>?_)
  show m Y e (N _ _ (Au d4) U) (fun c o g J n I x=>N _ _ I (v.extBut _ _ J (r.extBut _ _ n (h.extBut _ _ g x)))) C
end
abbrev zh1(h:Uf)(t:Uc):Uf:=h.push {cls:= .type "tuple_iterator",data:= .fields #[.ref t,.int 0 0]}
abbrev zh2(h:Uf)(t l:Uc):Uf:=(zh1 h t).push {cls:= .type "tuple_iterator",data:= .fields #[.ref l,.int 0 0]}
abbrev zh3(h:Uf)(t l:Uc):Uf:=(zh2 h t l).push {cls:= .type "tuple",data:= .seq #[.ref h.objs.size,.ref (zh1 h t).objs.size]}
abbrev zh4(h:Uf)(t l:Uc):Uf:=(zh3 h t l).push {cls:= .type "tuple",data:= .seq #[.none,.none]}
abbrev zh5(h:Uf)(t l:Uc):Uf:=(zh4 h t l).push {cls:= .type "zip",data:= .fields #[.none,.bool false,.bool false,.ref (zh2 h t l).objs.size,.ref (zh3 h t l).objs.size]}
def Yu3(t l:Uc)(xs ys:Array Ua):Meets (Builtin.«zip.__new__» ⟨[.type "zip",.ref t,.ref l],[]⟩) (fun _ R s=>s.heap.IsTuple t xs/\s.heap.IsTuple l ys/\R (.ok (.ret (.ref (zh4 s.heap t l).objs.size))) {s with heap:=zh5 s.heap t l}):=
 .of_wp fun c w A R s h=>by
  let⟨f,g,d,a,e⟩:=s
  let⟨i,j,h⟩:=h
  have b:=sub_zip
  have k:Heap.IsTuple (Shared.heap ⟨f,g,d,a,e⟩) t xs:=i
  have m:Heap.IsTuple (Shared.heap ⟨f.push {cls:= .type "tuple_iterator",data:= .fields #[.ref t,.int 0 0]},g,d,a,e⟩) l ys:=Heap.IsTuple.push j _
  wp_walk using wpAny_pyIter_tuple k,wpAny_pyIter_tuple m
  show⟨_,rfl,h⟩
section
variable{prog:Ud}{w:Ue}{A:Around}{E:VSP}{s:Ub}
def zt_call{t l:Uc}(j:s.heap.IsTuple t xs)(k:s.heap.IsTuple l ys)
  (h:∀h',IsZip h' (s⁻¹+4) (s⁻¹+2) (s⁻¹+3) .none->IsPair h' (s⁻¹+2) (.ref s⁻¹) (.ref (s⁻¹+1))->IsPair h' (s⁻¹+3) .none .none->
   h'.IsTupleIter s⁻¹ t 0->h'.IsTupleIter (s⁻¹+1) l 0->(∀c o,s.heap.get? c=some o->h'.get? c=some o)->Q (.ref (s⁻¹+4)) {s with heap:=h'}):
  wpAny (model prog w) A (call (.type "zip") [.ref t,.ref l]) Q E s:=by
 refine callType_new F.called_zip 'd' (F.typeCall_zip_2 _ _) (F.newCall_zip_2 _ _) (fun g=>F.args_object_init_3 g _ _) F.entry_zip_new (Yu3 t l xs ys) ⟨j,k,?_⟩
 have f:(zh1 s.heap t).objs.size=s⁻¹+1:=Ia ..
 have d:(zh2 s.heap t l).objs.size=s⁻¹+2:=by rw[Ia,f]
 have b:(zh3 s.heap t l).objs.size=s⁻¹+3:=by rw[Ia,d]
 have i:(zh4 s.heap t l).objs.size=s⁻¹+4:=by rw[Ia,b]
 have a:∀{h:Uf} {o:Obj} {c:Uc} {u:Obj},h.get? c=some u->(h.push o).get? c=some u:=fun e=>Ah _ e
 have g5:(zh5 s.heap t l).get? (zh4 s.heap t l).objs.size=some _:=Aq _ rfl
 have g4:(zh5 s.heap t l).get? (zh3 s.heap t l).objs.size=some _:=a (Aq _ rfl)
 have g3:(zh5 s.heap t l).get? (zh2 s.heap t l).objs.size=some _:=a (a (Aq _ rfl))
 have g2:(zh5 s.heap t l).get? (zh1 s.heap t).objs.size=some _:=a (a (a (Aq _ rfl)))
 have g1:(zh5 s.heap t l).get? s⁻¹=some _:=a (a (a (a (Aq _ rfl))))
 change _/\_
 rw[d,b,i] at g5
 rw[f,d] at g3
 rw[b] at g4
 rw[f] at g2
 rw[i]
 show⟨⟨_,g5,rfl⟩,h _ g5 g3 g4 ⟨_,g1,rfl,rfl⟩ ⟨_,g2,rfl,rfl⟩ fun c o e=>a (a (a (a (a e))))⟩
variable{z TI TO i1 i2 l1 l2:Uc}{xs ys:Array Ua}{S1 S2:Nat->Uf->Prop}
def zn_item{k:Nat}{x y a b:Ua}(D:Ap z TI TO i1 i2 l1 l2)(B:Nx prog w i1 l1 xs S1)(v:Nx prog w i2 l2 ys S2)
  (hz:IsZip s.heap z TI TO .none) (h:IsPair s.heap TI (.ref i1) (.ref i2)) (g:IsPair s.heap TO a b) (j:S1 k s.heap) (i:S2 k s.heap) (f:xs[k]?=some x) (e:ys[k]?=some y)
  (q:∀h',IsZip h' z TI TO (rawInt s⁻¹)->IsPair h' TO x y->S1 (k+1) h'->S2 (k+1) h'->IsPair h' s⁻¹ x y->h'.objs.size=s⁻¹+1->(∀c o,c≠z->c≠TO->c≠i1->c≠i2->s.heap.get? c=some o->h'.get? c=some o)->Q (↑s⁻¹) {s with heap:=h'}):
  wpAny (model prog w) A (pyNext (.ref z)) Q E s:=by
 have d:s.TypeIs (.ref z) "zip":=⟨_,hz,rfl⟩
 unfold pyNext
 show Aa (wpAny_attempt (Ie (name:=Str.ofString "__next__") d F.slot_zip_next (La F.slot_zip_next d F.entry_zip_next (Yw0 D B v hz h g j i f e fun h' u t r p n m l=>Ai (q h' u t r p n m l)) (F.args_zip_next_1 _))))
def zn_end{k:Nat}{a b:Ua}(i:A.handled=none)(D:Ap z TI TO i1 i2 l1 l2)(u:Nx prog w i1 l1 xs S1)(t:Nx prog w i2 l2 ys S2)
  (hz:IsZip s.heap z TI TO .none) (n:IsPair s.heap TI (.ref i1) (.ref i2)) (m:IsPair s.heap TO a b) (r:S1 k s.heap) (p:S2 k s.heap) (d:xs[k]?=none\/ys[k]?=none)
  (q:∀h',(∀c o,c≠z->c≠TO->c≠i1->c≠i2->s.heap.get? c=some o->h'.get? c=some o)->Q none {s with heap:=h'}):wpAny (model prog w) A (pyNext (.ref z)) Q E s:=by
 have f:s.TypeIs (.ref z) "zip":=⟨_,hz,rfl⟩
 unfold pyNext
 refine Aa (wpAny_attempt (Ie (name:=Str.ofString "__next__") f F.slot_zip_next (La F.slot_zip_next f F.entry_zip_next (Yz2 (A:=A.in1) i D u t hz n m r p d fun h' e h j=>?_) (F.args_zip_next_1 _))))
 let⟨o,g,l⟩:=j
 show Aa (wpAny_isInstance (T:="StopIteration") (b:=true) ⟨o,g,l⟩ isSubtype_stop (Ai (q _ h)))
end
end ZT
namespace L3
open PySem PySem.Spec PyProof.Rows L2
section
variable{X:Cx}
def Itzt(K:Ab)(a b:Uc)(xs ys:LV):It:=
 ⟨fun i H=>∃x y,SqT K H a xs/\SqT K H b ys/\xs[i]?=some x/\ys[i]?=some y,
  fun i H x c=>∃p u v,H p=none/\c=upd H p (.tup [u,v])/\x= .ref p/\xs[i]?=some u/\ys[i]?=some v,
  fun i H=>SqT K H a xs/\SqT K H b ys/\(xs.length<=i\/ys.length<=i)⟩
def Zr1{P:Ud}{K:Ab}{z n C B t a b:Uc}(D:ZT.Ap z n C B t a b):
  Turn P w K (.Tuple elts x1 tp) (Itzt K a b xs ys) [z,n,C,B,t] z (fun i h=>IsZip h z n C .none/\IsPair h n (.ref B) (.ref t)/\(∃u v,IsPair h C u v)/\h.IsTupleIter B a i/\h.IsTupleIter t b i) where
 mem:=by simp
 obj:=by
  rintro i h ⟨m,f,⟨u,v,j⟩,⟨o1,N,_,d1⟩,⟨Z,L,_,d2⟩⟩ c d
  simp only[An,Df,or_false] at d
  rcases d with rfl | rfl | rfl | rfl | rfl
  .exact⟨_,m,fun v q=>by cases q⟩
  .exact⟨_,f,fun v q=>by cases q⟩
  .exact⟨_,j,fun v q=>by cases q⟩
  .exact⟨_,N,fun v q=>by rw[d1] at q;cases q⟩
  .exact⟨_,L,fun v q=>by rw[d2] at q;cases q⟩
 keep:=by
  rintro i h h' ⟨m,f,⟨u,v,j⟩,⟨o,e,r⟩,⟨Z,L,r2⟩⟩ k
  show⟨k z (by simp) _ m,k n (by simp) _ f,⟨u,v,k C (by simp) _ j⟩,⟨o,k B (by simp) _ e,r⟩,⟨Z,k t (by simp) _ L,r2⟩⟩
 item:=by
  rintro X rfl rfl rfl d i l s σ H E I O ⟨m,f,⟨u0,v0,j⟩,S,R⟩ ⟨x,y,hq,hr,hx,hy⟩
  let⟨J,U,p,_⟩:=I.tuple hq
  let⟨G,F,Y,_⟩:=I.tuple hr
  let⟨u,hu,ru⟩:=U.get hx
  let⟨v,hv,T⟩:=F.get hy
  have lt:∀c∈[z,n,C,B,t],@LT.lt Nat _ c s⁻¹:=by
   intro c d
   simp only[An,Df,or_false] at d
   let⟨o1,N,_⟩:=id S
   let⟨Z,L,_⟩:=id R
   rcases d with rfl | rfl | rfl | rfl | rfl
   .exact Aj m
   .exact Aj f
   .exact Aj j
   .exact Aj N
   .exact Aj L
  refine ZT.zn_item D (ZT.Nx.tuple D.z3.2.2.1 J.toArray) (ZT.Nx.tuple D.z4.2.2 G.toArray) m f j ⟨S,p⟩ ⟨R,Y⟩ (x:=u) (y:=v) ↥hu ↥hv fun hh ho M g1 g2 hT x0 hk=>?_
  refine⟨_,rfl,wpAny_letOwnedTupleGo_zip ho fun h3 z0 g=>?_⟩
  replace g:Hv z hh h3:=g
  let⟨⟨a1,a2,a3,a4,a5,a6⟩,⟨b1,b2,b3,b4,b5⟩,⟨c1,c2,c3,c4⟩,N,L,e3⟩:=D
  have nz:s⁻¹≠z:=nq (lt z (by simp))
  have y0:h3.get? s⁻¹=some {cls:= .type "tuple",data:= .seq #[u,v]}:=(g.2 _ nz).trans hT
  have hn:H s⁻¹=none:=I.hok.fresh (nc _)
  have I1:Inv X l σ (upd H s⁻¹ (.tup [x,y])) {s with heap:=s.heap.push {cls:= .type "tuple",data:= .seq #[u,v]},toks:=s.toks}:=
   I.laid (fun b ob q=>Ah _ q) (nc _) ⟨show 2<=sizeLine by rw[Kz];lia,[u,v],.cons ru (.cons T .nil),⟨_,Aq _ rfl,rfl,_,rfl⟩⟩
  have up:∀c∈[z,n,C,B,t],FpOk X l (upd H s⁻¹ (.tup [x,y])) c:=by
   intro c d
   refine⟨?_,(O c d).2⟩
   rw[Z6 (nk (lt c d))]
   show(O c d).1
  have I2:=Jf (h':=h3) (t':=s.toks) I1 (fun c o d e'=>by
   simp only[An,Df,or_false,not_or] at d
   rcases S7 e' with q | q
   .exact(g.2 c d.1).trans (hk c o d.1 d.2.2.1 d.2.2.2.1 d.2.2.2.2 q)
   .subst q
    have z2:(s.heap.push {cls:= .type "tuple",data:= .seq #[u,v]}).get? s⁻¹=some o:=e'
    rw[Aq _ rfl] at z2
    cases z2
    show y0) up
  let⟨q1,q2,q3⟩:=g1.1
  let⟨q4,q5,q6⟩:=g2.1
  refine⟨.ref s⁻¹,_,I2,rfl,⟨_,x,y,hn,rfl,rfl,hx,hy⟩,
   ⟨z0,(g.2 n a1).trans (hk n _ a1 b1 c1 N f),⟨_,_,(g.2 C a2).trans M⟩,⟨q1,(g.2 B a3).trans q2,q3⟩,⟨q4,(g.2 t a4).trans q5,q6⟩⟩,fun c d=>(up c d).1⟩
 done:=by
  rintro X rfl rfl rfl d i l s σ H E I O ⟨m,f,⟨u0,v0,j⟩,S,R⟩ ⟨hq,hr,hl⟩
  let⟨J,U,p,_⟩:=I.tuple hq
  let⟨G,F,Y,_⟩:=I.tuple hr
  have l1:=U.length
  have l2:=F.length
  refine ZT.zn_end (I.ok.hd d) D (ZT.Nx.tuple D.z3.2.2.1 J.toArray) (ZT.Nx.tuple D.z4.2.2 G.toArray) m f j ⟨S,p⟩ ⟨R,Y⟩ ?_ fun h' eb=>⟨rfl,Jf (t':=s.toks) I (ch:=[z,n,C,B,t]) (fun c o d e=>?_) O⟩
  .rcases hl with hl | hl
   .exact .inl (by simp;lia)
   .exact .inr (by simp;lia)
  .simp only[An,Df,or_false,not_or] at d
   show eb c o d.1 d.2.2.1 d.2.2.2.1 d.2.2.2.2 e
 self:=by
  rintro A i s Q E ⟨m,_⟩ h
  show wpAny_pyIter_zip m h
def X00(K:Ab)(h:TA):TI:=fun g H R=>h g H fun f c=>(∃a b,f=[V.ref a,V.ref b]/\(∃e,SqL K c a e)/\(∃d,SqL K c b d)/\R (Itz K a b) c)\/(∃a b e d,f=[V.ref a,V.ref b]/\SqT K c a e/\SqT K c b d/\R (Itzt K a b e d) c)
def Y85{W:Nat}{l:Expr}{L:TA}{p pos:Pos}(hg:Gl X "zip")(hm:X.mg "zip"=none)(ha:PA X (l::ls) L)(he:starEach (l::ls) X.env=(false,eval l X.env)::starEach ls X.env)(x:(backTo pos (starEach ls X.env)).any (·.1)=false):
  PI X (.Tuple elts W tp) (.Call (.Name "zip" p) (l::ls) [] pos) (X00 X.K L):=by
 intro k s Q H R I h
 refine Hr (N9 I hg hm (u:= .type "zip") (by kernel_rfl) ?_)
 refine Kh (thn (ha pos k s Q H _ I h) fun J d zz64=>?_) he x
 let⟨vs,P,f,M,q⟩:=zz64
 have n:∀c∈[d⁻¹+4,d⁻¹+2,d⁻¹+3,d⁻¹,d⁻¹+1],@LE.le Nat _ d⁻¹ c:=by
  intro c j
  simp only[An,Df,or_false] at j
  rcases j with rfl | rfl | rfl | rfl | rfl
  .exact Nat.le_add_right _ _
  .exact Nat.le_add_right _ _
  .exact Nat.le_add_right _ _
  .exact nc _
  .exact Nat.le_add_right _ _
 rcases q with⟨a,b,z,⟨V,y⟩,⟨U,w⟩,q⟩ | ⟨a,b,V,U,z,y,w,q⟩
 .subst z
  let⟨u1,Z,rfl,B,A⟩:=Pl M
  cases B
  cases A
  let⟨J,r1,i,T⟩:=f.list y
  let⟨Y,r2,g,S⟩:=f.list w
  have O:=i.isList
  have N:=g.isList
  have t:@LT.lt Nat _ a d⁻¹:=by let⟨o,e,_⟩:=O;show Aj e
  have r:@LT.lt Nat _ b d⁻¹:=by let⟨o,e,_⟩:=N;show Aj e
  refine call_zip_2 O N fun h' m G F E C a6 v=>wpAny_pyIter_zip m ?_
  have D:ZipApart (d⁻¹+4) (d⁻¹+2) (d⁻¹+3) d⁻¹ (d⁻¹+1) a b:=by
   constructor<;>(show(_:Nat)≠_)<;>lia
  show⟨d⁻¹+4,[d⁻¹+4,d⁻¹+2,d⁻¹+3,d⁻¹,d⁻¹+1],_,_,P,rfl,f.kept (t':=d.toks) v,Zy8 _ _ _ _ _ a b D,⟨m,G,⟨_,_,F⟩,E,C⟩,fun c j=>f.fpOk (n c j) (f.hok.fresh (n c j)),q⟩
 .subst z
  let⟨u1,Z,rfl,B,A⟩:=Pl M
  cases B
  cases A
  let⟨J,r1,i,T⟩:=f.tuple y
  let⟨Y,r2,g,S⟩:=f.tuple w
  have t:@LT.lt Nat _ a d⁻¹:=by let⟨o,e,_⟩:=i;show Aj e
  have r:@LT.lt Nat _ b d⁻¹:=by let⟨o,e,_⟩:=g;show Aj e
  refine ZT.zt_call i g fun h' m G F E C v=>wpAny_pyIter_zip m ?_
  have D:ZT.Ap (d⁻¹+4) (d⁻¹+2) (d⁻¹+3) d⁻¹ (d⁻¹+1) a b:=by
   refine⟨⟨?_,?_,?_,?_,?_,?_⟩,⟨?_,?_,?_,?_,?_⟩,⟨?_,?_,?_,?_⟩,?_,?_,?_⟩<;>(show(_:Nat)≠_)<;>lia
  show⟨d⁻¹+4,[d⁻¹+4,d⁻¹+2,d⁻¹+3,d⁻¹,d⁻¹+1],_,_,P,rfl,f.kept (t':=d.toks) v,Zr1 D,⟨m,G,⟨_,_,F⟩,E,C⟩,fun c j=>f.fpOk (n c j) (f.hok.fresh (n c j)),q⟩
end
end L3
namespace U
open PySem PySem.Spec PyProof.Rows L2 L3
inductive D where
 | non | bl (b:Bool) | int (i:Int) | str (x:Str) | tup (ds:List D) | ref (n:Nat) | ty (n:String) | gtup (ds:List D) | cls (a:Uc) | exn (e C dx:Uc) (row:D)
inductive Cell where
 | lst (ds:List D) | frz (ds:List D) | dct (kvs:List (Key×D)) | fdc (kvs:List (Key×D)) | dcp (kvs:List (List Key×D))
abbrev LD:=List D
abbrev KQ9:=List (Key×D)
abbrev Z2:=List Cell
abbrev DEnv:=List (Option D)
abbrev DK:=D->Z2->Prop
abbrev DX:=Uc->D->Z2->Prop
abbrev DE:=DEnv->Z2->DK->Prop
abbrev DA:=DEnv->Z2->(LD->Z2->Prop)->Prop
abbrev DT:=DEnv->Z2->(Bool->Z2->Prop)->Prop
abbrev DSp:=LD->Z2->DK->DX->Prop
structure DEnds where
 nx:DEnv->Z2->Prop
 rt:DK
 bk:DEnv->Z2->Prop:=fun _ _=>False
 ct:DEnv->Z2->Prop:=fun _ _=>False
abbrev DS:=DEnds->DEnv->Z2->Prop
structure Vw where
 K:Ab
 H:Hp
 μ:Nat->Uc
 n:Nat
mutual
def RD(w:Vw):D->V->Prop
 | .non,v=>v= .non
 | .bl b,v=>v= .bl b
 | .int i,v=>v= .int i
 | .str x,v=>v= .str x
 | .tup f,v=>∃a c,v= .ref a/\w.H a=some (.tup c)/\RDs w f c
 | .ref i,v=>i<w.n/\v= .ref (w.μ i)
 | .ty n,v=>v= .ty n
 | .gtup f,v=>∃a c,v= .ref a/\SqT w.K w.H a c/\RDs w f c
 | .cls a,v=>v= .ref a
 | .exn e C g d,v=>v= .ref e/\w.H e=some (XO e (.ref C) (some g))/\∃r,w.H g=some (.xd [("row",r)])/\RD w d r
def RDs(w:Vw):LD->LV->Prop
 | [],a=>a=[]
 | d::b,a=>∃v r,a=v::r/\RD w d v/\RDs w b r
end
def RKV{b:Type}(w:Vw):List (b×D)->List (b×V)->Prop
 | [],a=>a=[]
 |(k,d)::c,a=>∃v r,a=(k,v)::r/\RD w d v/\RKV w c r
def SqF(K:Ab)(H:Hp)(a:Uc)(vs:LV):Prop:=(∃o,H a=some (.frz o (.lst vs)))\/SqL K (fun _=>none) a vs
def Cell.mut:Cell->Bool
 | .frz _=>false
 | _=>true
def G6(w:Vw):Cell->Uc->Prop
 | .lst d,a=>∃b,w.H a=some (.lst b)/\RDs w d b
 | .frz d,a=>∃b,SqF w.K w.H a b/\RDs w d b
 | .dct c,a=>∃b,w.H a=some (.dK b)/\RKV w c b
 | .fdc c,a=>∃o b,w.H a=some (.frz o (.dK b))/\RKV w c b
 | .dcp c,a=>∃b,w.H a=some (.dT b)/\RKV w c b
structure RS(w:Vw)(M:Z2):Prop where
 len:w.n=M.length
 inj:∀(i j:Nat) (ci cj:Cell),M[i]?=some ci->M[j]?=some cj->ci.mut=true->cj.mut=true->w.μ i=w.μ j->i=j
 cell:∀i c,M[i]?=some c->G6 w c (w.μ i)
def Imm:HO->Bool
 | .tup _ | .xd _ | .ext _ | .frz _ _=>true
 | _=>false
structure Ext(w w':Vw):Prop where
 K:w'.K=w.K
 n:w.n<=w'.n
 μ:∀i,i<w.n->w'.μ i=w.μ i
 imm:∀a o,w.H a=some o->Imm o=true->w'.H a=some o
def Ext.refl(w:Vw):Ext w w:=⟨rfl,nc _,fun _ _=>rfl,fun _ _ h _=>h⟩
def Ext.trans{a b c:Vw}(x:Ext a b)(y:Ext b c):Ext a c:=
 ⟨y.K.trans x.K,nj x.n y.n,fun i h=>(y.μ i (ni h x.n)).trans (x.μ i h),fun p o h q=>y.imm p o (x.imm p o h q) q⟩
def Ext.sqT{w b:Vw}(x:Ext w b){a:Uc}(h:SqT w.K w.H a vs):SqT b.K b.H a vs:=by
 rw[x.K]
 rcases h with(h | ⟨o,h⟩) | h
 .exact .inl (.inl (x.imm _ _ h rfl))
 .exact .inl (.inr ⟨o,x.imm _ _ h rfl⟩)
 .exact .inr h
structure Ext0(w w':Vw):Prop where
 K:w'.K=w.K
 n:w.n<=w'.n
 μ:∀i,i<w.n->w'.μ i=w.μ i
 imm:∀a o,w.H a=some o->Imm o=true->(∀ob kvs,o≠ .frz ob (.dK kvs))->w'.H a=some o
mutual
theorem RD.ext0{w f:Vw}(x:Ext0 w f):∀{d:D} {v:V},RD w d v->RD f d v
 | .non,v,h=>h
 | .bl b,v,h=>h
 | .int i,v,h=>h
 | .str _,v,h=>h
 | .tup m,v,h=>by
  unfold RD at *
  let⟨a,c,e,q,r⟩:=h
  show⟨a,c,e,x.imm _ _ q rfl (fun _ _ z=>by cases z),RDs.ext0 x r⟩
 | .ref i,v,h=>by
  unfold RD at *
  show⟨ni h.1 x.n,by rw[x.μ i h.1];show h.2⟩
 | .ty n,v,h=>h
 | .gtup m,v,h=>by
  unfold RD at *
  let⟨a,c,e,q,r⟩:=h
  refine⟨a,c,e,?_,RDs.ext0 x r⟩
  rw[x.K]
  rcases q with(h | ⟨o,h⟩) | h
  .exact .inl (.inl (x.imm _ _ h rfl (fun _ _ z=>by cases z)))
  .exact .inl (.inr ⟨o,x.imm _ _ h rfl (fun _ _ z=>by cases z)⟩)
  .exact .inr h
 | .cls a,v,h=>h
 | .exn e C p g,v,h=>by
  unfold RD at *
  let⟨l,q,r,k,j⟩:=h
  show⟨l,x.imm _ _ q rfl (fun _ _ z=>by cases z),r,x.imm _ _ k rfl (fun _ _ z=>by cases z),RD.ext0 x j⟩
theorem RDs.ext0{w a:Vw}(x:Ext0 w a):∀{ds:LD} {vs:LV},RDs w ds vs->RDs a ds vs
 | [],vs,h=>h
 | d::ds,vs,h=>by
  unfold RDs at *
  let⟨v,r,e,c,b⟩:=h
  show⟨v,r,e,RD.ext0 x c,RDs.ext0 x b⟩
end
theorem RKV.ext0{a:Type}{w b:Vw}(x:Ext0 w b):∀{ds:List (a×D)} {vs:List (a×V)},RKV w ds vs->RKV b ds vs
 | [],vs,h=>h
 |(k,d)::ds,vs,h=>by
  unfold RKV at *
  let⟨v,r,e,f,c⟩:=h
  show⟨v,r,e,RD.ext0 x f,RKV.ext0 x c⟩
def Ext.z{w f:Vw}(x:Ext w f):Ext0 w f:=⟨x.K,x.n,x.μ,fun a o h q _=>x.imm a o h q⟩
def RD.ext{w f:Vw}(x:Ext w f){d:D}{v:V}(h:RD w d v):RD f d v:=RD.ext0 x.z h
def RDs.ext{w f:Vw}(x:Ext w f){d:LD}{v:LV}(h:RDs w d v):RDs f d v:=RDs.ext0 x.z h
def RKV.ext{a:Type}{w f:Vw}(x:Ext w f){d:List (a×D)}{v:List (a×V)}(h:RKV w d v):RKV f d v:=RKV.ext0 x.z h
def RDs.nil(w:Vw):RDs w [] []:=by unfold RDs;rfl
def RDs.cons{w:Vw}{d:D}{v:V}{ds:LD}{vs:LV}(h:RD w d v)(r:RDs w ds vs):RDs w (d::ds) (v::vs):=by unfold RDs;show⟨v,vs,rfl,h,r⟩
def RDs.length:∀{ds:LD} {vs:LV},RDs w ds vs->vs.length=ds.length
 | [],vs,h=>by unfold RDs at h;subst h;rfl
 | d::ds,vs,h=>by
  unfold RDs at h
  let⟨v,r,rfl,_,a⟩:=h
  simp[a.length]
def RDs.get:∀{ds:LD} {vs:LV} {i:Nat} {d:D},RDs w ds vs->ds[i]?=some d->∃v,vs[i]?=some v/\RD w d v
 | [],vs,i,d,h,e=>by simp at e
 | d::ds,vs,i,c,h,e=>by
  unfold RDs at h
  let⟨v,r,rfl,b,a⟩:=h
  cases i with
  | zero=>simp at e;subst e;show⟨v,rfl,b⟩
  | succ i=>simpa using RDs.get a ↥e
def RDs.append:∀{ds es:LD} {vs us:LV},RDs w ds vs->RDs w es us->RDs w (ds++es) (vs++us)
 | [],es,vs,us,h,g=>by unfold RDs at h;subst h;show g
 | d::ds,es,vs,us,h,g=>by
  unfold RDs at h
  let⟨v,r,rfl,b,a⟩:=h
  show RDs.cons b (RDs.append a g)
def RDs.take:∀{ds:LD} {vs:LV} (n:Nat),RDs w ds vs->RDs w (ds.take n) (vs.take n)
 | _,_,0,_=>by simp[RDs.nil]
 | [],vs,n+1,h=>by unfold RDs at h;subst h;simp[RDs.nil]
 | d::ds,vs,n+1,h=>by
  unfold RDs at h
  let⟨v,r,rfl,b,a⟩:=h
  show RDs.cons b (RDs.take n a)
def RDs.drop:∀{ds:LD} {vs:LV} (n:Nat),RDs w ds vs->RDs w (ds.drop n) (vs.drop n)
 | _,_,0,h=>by simpa using h
 | [],vs,n+1,h=>by unfold RDs at h;subst h;simp[RDs.nil]
 | d::ds,vs,n+1,h=>by
  unfold RDs at h
  let⟨v,r,rfl,b,a⟩:=h
  simpa using RDs.drop n a
def RDs.set{d:D}{v:V}(q:RD w d v):∀{ds:LD} {vs:LV} (n:Nat),RDs w ds vs->RDs w (ds.set n d) (vs.set n v)
 | [],vs,n,h=>by unfold RDs at h;subst h;simp[RDs.nil]
 | d::ds,vs,0,h=>by
  unfold RDs at h
  let⟨v,r,rfl,b,a⟩:=h
  show RDs.cons q a
 | d::ds,vs,n+1,h=>by
  unfold RDs at h
  let⟨v,r,rfl,b,a⟩:=h
  show RDs.cons b (RDs.set q n a)
def RDs.reverse:∀{ds:LD} {vs:LV},RDs w ds vs->RDs w ds.reverse vs.reverse
 | [],vs,h=>by unfold RDs at h;subst h;simp[RDs.nil]
 | d::ds,vs,h=>by
  unfold RDs at h
  let⟨v,r,rfl,b,a⟩:=h
  simp only[Ix]
  show(RDs.reverse a).append (RDs.cons b (RDs.nil w))
def Vw.push(w:Vw)(a:Uc)(o:HO):Vw:=⟨w.K,upd w.H a o,fun i=>if i=w.n then a else w.μ i,w.n+1⟩
def Vw.alloc(w:Vw)(a:Uc)(o:HO):Vw:={w with H:=upd w.H a o}
def We{a:Uc}(h:w.H a=none):Ext w (w.alloc a o):=
 ⟨rfl,nc _,fun _ _=>rfl,fun b u q _=>by
  change upd w.H a o b=some u
  rw[Z6 (by rintro rfl;rw[h] at q;cases q)];show q⟩
def Xp{a:Uc}(h:w.H a=none):Ext w (w.push a o):=
 ⟨rfl,mh _,fun i c=>by show(if i=w.n then a else w.μ i)=_;rw[ng 'o'],fun b u q _=>by
  change upd w.H a o b=some u
  rw[Z6 (by rintro rfl;rw[h] at q;cases q)];show q⟩
def SqF.stay{w b:Vw}{a:Uc}(x:Ext w b)(h:SqF w.K w.H a vs):SqF b.K b.H a vs:=by
 rcases h with⟨o,h⟩ | h
 .exact .inl ⟨o,x.imm _ _ h rfl⟩
 .rw[x.K];show .inr h
def SqF.sq{K:Ab}{H:Hp}{a:Uc}(h:SqF K H a vs):SqL K H a vs:=by
 rcases h with⟨o,h⟩ | (h | ⟨o,h⟩) | h
 .exact .inl (.inr ⟨o,h⟩)
 .cases h
 .cases h
 .exact .inr h
def G6.some{c:Cell}{a:Uc}(e:c.mut=true)(h:G6 w c a):∃o,w.H a=some o:=by
 cases c with
 | lst b=>let⟨d,q,_⟩:=h;show⟨_,q⟩
 | frz b=>cases e
 | dct b=>let⟨d,q,_⟩:=h;show⟨_,q⟩
 | fdc b=>let⟨o,d,q,_⟩:=h;show⟨_,q⟩
 | dcp b=>let⟨d,q,_⟩:=h;show⟨_,q⟩
def G6.stay{c:Cell}{a:Uc}(x:Ext w e)(h:G6 w c a)(k:c.mut=true->e.H a=w.H a):G6 e c a:=by
 cases c with
 | lst d=>let⟨b,q,r⟩:=h;show⟨b,(k rfl).trans q,r.ext x⟩
 | frz d=>let⟨b,q,r⟩:=h;show⟨b,q.stay x,r.ext x⟩
 | dct d=>let⟨b,q,r⟩:=h;show⟨b,(k rfl).trans q,r.ext x⟩
 | fdc d=>let⟨o,b,q,r⟩:=h;show⟨o,b,(k rfl).trans q,r.ext x⟩
 | dcp d=>let⟨b,q,r⟩:=h;show⟨b,(k rfl).trans q,r.ext x⟩
def RS.alloc{a:Uc}(R:RS w M)(h:w.H a=none):RS (w.alloc a o) M:=
 ⟨R.len,R.inj,fun i c e=>by
  have q:=R.cell i c e
  refine q.stay (We h) fun d=>?_
  let⟨u,b⟩:=q.some d
  show Z6 (fun z=>by have z:w.μ i=a:=z;rw[z,h] at b;cases b)⟩
def RS.push{a:Uc}{c:Cell}(R:RS w M)(h:w.H a=none)(s:G6 (w.push a o) c a):RS (w.push a o) (M++[c]):=by
 have f:∀(i:Nat) (b:Cell),(M++[c])[i]?=some b->(i=w.n/\b=c)\/(i<w.n/\M[i]?=some b):=fun i b e=>by
  by_cases A:i<M.length
  .rw[Dn A] at e
   show .inr ⟨by rw[R.len];show A,e⟩
  .rw[Dt 'o'] at e
   have C:i - M.length=0:=by
    have:=(Ac.mp e).1
    simp at this
    lia
   rw[C] at e
   simp at e
   show .inl ⟨by rw[R.len];lia,e.symm⟩
 have r:∀(i:Nat) (b:Cell),M[i]?=some b->b.mut=true->w.μ i≠a:=fun i b e t z=>by
  let⟨u,y⟩:=(R.cell i b e).some t
  rw[z,h] at y;cases y
 refine⟨by change w.n+1=_;rw[R.len];simp,fun i j b m D B x v e=>?_,fun i p e=>?_⟩
 .change (if i=w.n then a else w.μ i)=(if j=w.n then a else w.μ j) at e
  rcases f i b D with⟨k,_⟩ | ⟨k,d⟩
  .rcases f j m B with⟨l,_⟩ | ⟨l,g⟩
   .lia
   .rw[nh k,ng 'o'] at e
    show absurd e.symm (r j m g v)
  .rcases f j m B with⟨l,_⟩ | ⟨l,g⟩
   .rw[ng 'o',nh l] at e
    show absurd e (r i b d x)
   .rw[ng 'o',ng 'o'] at e
    show R.inj i j b m d g x v e
 .change G6 _ p (if i=w.n then a else w.μ i)
  rcases f i p e with⟨k,rfl⟩ | ⟨k,d⟩
  .rw[nh k];show s
  .rw[ng 'o']
   have q:=R.cell i p d
   show q.stay (Xp h) fun t=>Z6 (r i p d t)
def Yy{a:Uc}(h:w.H a=some u)(c:Imm u=false):Ext w (w.alloc a o):=
 ⟨rfl,nc _,fun _ _=>rfl,fun b v q z=>by
  change upd w.H a o b=some v
  rw[Z6 (by rintro rfl;rw[h] at q;cases q;rw[c] at z;cases z)];show q⟩
def RS.write{i:Nat}{l c:Cell}(R:RS w M)(h0:M[i]?=some l)(A:l.mut=true)(L:c.mut=true)(h:w.H (w.μ i)=some u)(E:Imm u=false)(m:G6 (w.alloc (w.μ i) o) c (w.μ i)):RS (w.alloc (w.μ i) o) (M.set i c):=by
 have F:i<M.length:=(Ac.mp h0).1
 have f:∀(j:Nat) (k:Cell),(M.set i c)[j]?=some k->k.mut=true->∃g,M[j]?=some g/\g.mut=true:=fun j k e p=>by
  by_cases d:j=i
  .subst d;show⟨l,h0,A⟩
  .rw[Db (Au d)] at e
   show⟨k,e,p⟩
 refine⟨by change w.n=_;rw[R.len];simp,fun a b K J I G D C e=>?_,fun j B e=>?_⟩
 .let⟨y,v,s⟩:=f a K I D
  let⟨x,t,r⟩:=f b J G C
  show R.inj a b y x v t s r e
 .by_cases d:j=i
  .subst d
   rw[Di F] at e
   cases e
   show m
  .rw[Db (Au d)] at e
   have q:=R.cell j B e
   show q.stay (Yy h E) fun p=>Z6 (fun z=>d (R.inj j i B l e h0 p A z))
def Ev{a:Uc}(h:w.H a=some (.frz o (.dK vs))):Ext0 w (w.alloc a u):=
 ⟨rfl,nc _,fun _ _=>rfl,fun b v q _ n=>by
  change upd w.H a u b=some v
  rw[Z6 (by rintro rfl;rw[h] at q;cases q;show n _ _ rfl)];show q⟩
def RS.thaw{i:Nat}(R:RS w M)(h0:M[i]?=some (.fdc kvs))(h:w.H (w.μ i)=some (.frz o (.dK vs)))(r:RKV w kvs vs):RS (w.alloc (w.μ i) (.dK vs)) (M.set i (.dct kvs)):=by
 have G:i<M.length:=(Ac.mp h0).1
 have x:=Ev (u:= .dK vs) h
 have f:∀(j:Nat) (m:Cell),(M.set i (.dct kvs))[j]?=some m->m.mut=true->∃g,M[j]?=some g/\g.mut=true:=fun j m e s=>by
  by_cases d:j=i
  .subst d;show⟨_,h0,rfl⟩
  .rw[Db (Au d)] at e
   show⟨m,e,s⟩
 refine⟨by change w.n=_;rw[R.len];simp,fun a b L K J I F E e=>?_,fun j p e=>?_⟩
 .let⟨C,A,v⟩:=f a L J F
  let⟨B,y,t⟩:=f b K I E
  show R.inj a b C B A y v t e
 .by_cases d:j=i
  .subst d
   rw[Di G] at e
   cases e
   show⟨vs,Zl,r.ext0 x⟩
  .rw[Db (Au d)] at e
   have q:=R.cell j p e
   have k:p.mut=true->w.μ j≠w.μ i:=fun s z=>d (R.inj j i p _ e h0 s rfl z)
   cases p with
   | lst l=>let⟨c,q,r⟩:=q;show⟨c,(Z6 (k rfl)).trans q,r.ext0 x⟩
   | dct l=>let⟨c,q,r⟩:=q;show⟨c,(Z6 (k rfl)).trans q,r.ext0 x⟩
   | fdc l=>let⟨o,c,q,r⟩:=q;show⟨o,c,(Z6 (k rfl)).trans q,r.ext0 x⟩
   | dcp l=>let⟨c,q,r⟩:=q;show⟨c,(Z6 (k rfl)).trans q,r.ext0 x⟩
   | frz l=>
    let⟨c,q,r⟩:=q
    refine⟨c,?_,r.ext0 x⟩
    rcases q with⟨o,q⟩ | q
    .exact .inl ⟨o,x.imm _ _ q rfl (fun _ _ z=>by cases z)⟩
    .exact .inr q
def Zy5{w1 c:Vw}{a:Uc}{u f o:HO}(h:w1.H a=some u)(e:Imm u=false)(x:Ext (w1.alloc a f) c):Ext w1 (c.alloc a o):=
 ⟨x.K,x.n,x.μ,fun b v q z=>by
  have d:b≠a:=by rintro rfl;rw[h] at q;cases q;rw[e] at z;cases z
  change upd c.H a o b=some v
  rw[Z6 d]
  show x.imm b v ((Z6 d).trans q) z⟩
inductive Op where
 | add | sub | mul | fdiv | mod | pow | band | bxor
 deriving DecidableEq
inductive Cm where
 | lt | gt | ge | eq | ne | is | isin | notin
 deriving DecidableEq
inductive Bf where
 | len | isinst | min2 | max2 | dict1 | int1
 deriving DecidableEq
inductive Mt where
 | append | get2 | pop0 | clear | setd | extend | clearD
 deriving DecidableEq
inductive Ty where
 | int | str | bool | list | tuple | dict | valueError
 deriving DecidableEq
def Ym:Ty->String
 | .int=>"int" | .str=>"str" | .bool=>"bool" | .list=>"list" | .tuple=>"tuple" | .dict=>"dict" | .valueError=>"ValueError"
mutual
inductive E where
 | var (i:Nat) | int (i:Int) | bl (b:Bool) | non | str (x:Str) | ty (x:Ty) | glb (k:Nat)
 | bin (op:Op) (a b:E) | neg (a:E) | not (a:E) | cmp (op:Cm) (a b:E) | bop (isAnd:Bool) (es:Es) | ife (c a b:E)
 | lst (es:Es) | tup (es:Es) | dict0 | dictT | dct (a b:E) | ix (a b:E) | sl (a:E) (lo hi:Eo)
 | call (f:Nat) (es:Es) | bf (b:Bf) (es:Es) | mt (m:Mt) (o:E) (es:Es)
 | comp (N':LS) (js:List (Option Nat)) (tg:LQ) (it:It) (cd:Eo) (e:E)
 | lrev (a:E) | slW (a:E) (lo hi:Eo)
inductive Es where
 | nil | cons (e:E) (r:Es)
inductive Eo where
 | no | yes (e:E)
inductive It where
 | seq (e:E) | rng1 (a:E) | enm (e:E) | zip (es:Es)
end
inductive Tk where
 | drop | ret | set (j:Nat)
mutual
inductive S where
 | ret (e:E) | expr (e:E)
 | set (tg:LQ) (e:E) | setL (tg:LQ) (e:E)
 | put (o i v:E)
 | ite (c:E) (a b:Ss) | for_ (tg:LQ) (it:It) (b:Ss) | forK (tg:LQ) (e:E) (b:Ss) | while_ (c:E) (b:Ss)
 | raise (k:Nat) (es:Es)
 | tryN (h:Tk) (f:Nat) (es:Es) (g:Nat) (s:Ss)
inductive Ss where
 | nil | cons (s:S) (r:Ss)
end
noncomputable def Z7(M:Z2)(n:Nat):Option (LD):=match M[n]? with
 | some (.lst a)=>some a
 | some (.frz a)=>some a
 | _=>none
def Z4(M:Z2)(n:Nat):Option (LD):=match M[n]? with
 | some (.lst a)=>some a
 | _=>none
def Z9(M:Z2)(n:Nat):Option (KQ9):=match M[n]? with
 | some (.dct a)=>some a
 | _=>none
def Zc1(M:Z2)(n:Nat):Option (KQ9):=match M[n]? with
 | some (.dct a)=>some a
 | some (.fdc a)=>some a
 | _=>none
def Zx(M:Z2)(n:Nat):Option (List (List Key×D)):=match M[n]? with
 | some (.dcp a)=>some a
 | _=>none
def valD{a:Type}[DecidableEq a](kvs:List (a×D))(k:a):Option D:=(kvs.find? fun b=>decide (b.1=k)).map (·.2)
def putD{b:Type}[DecidableEq b](kvs:List (b×D))(k:b)(v:D):List (b×D):=
 if (kvs.any fun a=>decide (a.1=k))=true then kvs.map (fun a=>if a.1=k then(a.1,v) else a) else kvs++[(k,v)]
def keyD:D->Option Key
 | .int i=>some (.inl i)
 | .str x=>some (.inr x)
 | _=>none
def kD:Key->D
 | .inl i=> .int i
 | .inr x=> .str x
def Vl(ps:KQ9):LD:=ps.map fun p=> .tup [kD p.1,p.2]
def Ri(ps:KQ9):KQ9:=ps.foldl (fun m p=>putD m p.1 p.2) []
def qdiv(i j:Int):Int:=if 0<j then i / j else i.fdiv j
def qmod(i j:Int):Int:=if 0<j then i % j else i.fmod j
def Zm8(i j:Int):i.fdiv j=qdiv i j:=by
 unfold qdiv
 split
 .exact Int.fdiv_eq_ediv_of_nonneg _ 'o'
 .rfl
def Zf2(i j:Int):i.fmod j=qmod i j:=by
 unfold qmod
 split
 .exact Int.fmod_eq_emod_of_nonneg _ 'o'
 .rfl
def Y33{i j:Int}(h:0<j):qdiv i j=i / j:=nh h
def Y11{i j:Int}(h:0<j):qmod i j=i % j:=nh h
def Zd4(x:D)(F:Int->Prop):Prop:=match x with
 | .int i=>F i
 | _=>False
def onBl(x:D)(F:Bool->Prop):Prop:=match x with
 | .bl b=>F b
 | _=>False
def Qz(x:D)(F:Nat->Prop):Prop:=match x with
 | .ref n=>F n
 | _=>False
def Zy3(x:D)(F:LD->Prop):Prop:=match x with
 | .tup l=>F l
 | _=>False
def Rk(x y:D)(F:Int->Int->Prop):Prop:=Zd4 x fun i=>Zd4 y fun j=>F i j
def at0(l:LD)(P:Prop):Prop:=match l with
 | []=>P
 | _::_=>False
def at1(l:LD)(F:D->Prop):Prop:=match l with
 | []=>False
 | a::r=>at0 r (F a)
def at2(l:LD)(F:D->D->Prop):Prop:=match l with
 | []=>False
 | a::r=>at1 r (F a)
def Wj{x:D}(h:Zd4 x F):∃i,x= .int i/\F i:=by
 cases x with
 | int i=>show⟨i,rfl,h⟩
 | _=>show Bk h
def Zz9{x:D}(h:onBl x F):∃b,x= .bl b/\F b:=by
 cases x with
 | bl b=>show⟨b,rfl,h⟩
 | _=>show Bk h
def Yw{x:D}(h:Qz x F):∃n,x= .ref n/\F n:=by
 cases x with
 | ref n=>show⟨n,rfl,h⟩
 | _=>show Bk h
def Pd{x:D}(h:Zy3 x F):∃l,x= .tup l/\F l:=by
 cases x with
 | tup l=>show⟨l,rfl,h⟩
 | _=>show Bk h
def Y4{x y:D}(h:Rk x y F):∃i j,x= .int i/\y= .int j/\F i j:=by
 let⟨i,rfl,b⟩:=Wj h
 let⟨j,rfl,a⟩:=Wj b
 show⟨i,j,rfl,rfl,a⟩
def Jh{l:LD}{P:Prop}(h:at0 l P):l=[]/\P:=by
 cases l with
 | nil=>show⟨rfl,h⟩
 | cons _ _=>show Bk h
def Sf{l:LD}(h:at1 l F):∃a,l=[a]/\F a:=by
 cases l with
 | nil=>show Bk h
 | cons a r=>let⟨rfl,b⟩:=Jh h;show⟨a,rfl,b⟩
def Si{l:LD}(h:at2 l F):∃a b,l=[a,b]/\F a b:=by
 cases l with
 | nil=>show Bk h
 | cons a r=>let⟨b,rfl,c⟩:=Sf h;show⟨a,b,rfl,c⟩
def addD(x y:D)(M:Z2)(Q:DK):Prop:=match x with
 | .int i=>Zd4 y fun j=>Q (.int (i+j)) M
 | .str a=>match y with
  | .str b=>a.length+b.length<=sizeLine/\Q (.str (a++b)) M
  | _=>False
 | .tup a=>Zy3 y fun b=>a≠[]/\a.length+b.length<=sizeLine/\Q (.tup (a++b)) M
 | .ref a=>Qz y fun b=>∃d c,Z4 M a=some d/\Z4 M b=some c/\d.length+c.length<=sizeLine/\Q (.ref M.length) (M++[.lst (d++c)])
 | _=>False
def mulD(x y:D)(M:Z2)(Q:DK):Prop:=match x with
 | .int i=>Zd4 y fun j=>IntMulOk i j/\Q (.int (i * j)) M
 | .ref a=>Zd4 y fun k=>∃b,Z4 M a=some b/\0<=k/\k<2 ^ 62/\b.length * k.toNat<=sizeLine/\Q (.ref M.length) (M++[.lst (Ds k.toNat b).flatten])
 | _=>False
def opD(op:Op)(x y:D)(M:Z2)(Q:DK):Prop:=match op with
 | .add=>addD x y M Q
 | .mul=>mulD x y M Q
 | .sub=>Rk x y fun i j=>Q (.int (i - j)) M
 | .fdiv=>Rk x y fun i j=>Zm7 i j/\Q (.int (qdiv i j)) M
 | .mod=>Rk x y fun i j=>j≠0/\Q (.int (qmod i j)) M
 | .pow=>Rk x y fun i j=>CPow i j/\Q (.int (i ^ j.toNat)) M
 | .band=>Rk x y fun i j=>Q (.int (Ma i j)) M
 | .bxor=>Rk x y fun i j=>Q (.int (Mb i j)) M
mutual
def PD(M:Z2):PyData->D->Prop
 | .none,d=>d= .non
 | .bool b,d=>d= .bl b
 | .int i,d=>d= .int i
 | .str x,d=>d= .str x
 | .list c,d=>∃n a,d= .ref n/\Z7 M n=some a/\PDs M c a
 | .tuple c,d=>∃a,d= .tup a/\PDs M c a
 | .dict _,_=>False
def PDs(M:Z2):List PyData->LD->Prop
 | [],a=>a=[]
 | x::b,a=>∃d r,a=d::r/\PD M x d/\PDs M b r
end
noncomputable def Y0:D->Bool
 | .non | .bl _ | .int _ | .str _=>true
 | _=>false
def eqF:D->D->Bool
 | .non,.non=>true
 | .bl a,.bl b=>a==b
 | .bl a,.int b=>(if a then 1 else 0)==b
 | .int a,.bl b=>a==(if b then 1 else 0)
 | .int a,.int b=>a==b
 | .str a,.str b=>a==b
 | _,_=>false
def eqFs(xs ys:LD):Bool:=(Ik (min xs.length ys.length)).all (fun j=>eqF (xs.getD j .non) (ys.getD j .non))&&xs.length==ys.length
def inD(x:D)(xs:LD):Bool:=xs.any fun y=>eqF y x
def eqKV(a b:KQ9):Bool:=a.length==b.length&&a.all fun c=>match valD b c.1 with
 | some y=>eqF c.2 y
 | none=>false
def eqS(x y:D):Option Bool:=match x with
 | .int i=>match y with
  | .int j=>some (decide (i=j))
  | .str _=>some false
  | .non=>some false
  | _=>none
 | .str i=>match y with
  | .str j=>some (decide (i=j))
  | .int _=>some false
  | .non=>some false
  | .bl _=>some false
  | _=>none
 | .bl i=>match y with
  | .bl j=>some (decide (i=j))
  | .non=>some false
  | .str _=>some false
  | _=>none
 | .non=>match y with
  | .non=>some true
  | .int _=>some false
  | .bl _=>some false
  | .str _=>some false
  | _=>none
 | _=>none
def eqD(M:Z2)(x y:D)(Q:Bool->Prop):Prop:=match eqS x y with
 | some b=>Q b
 | none=>(∃f e,PD M f x/\PD M e y/\f.canLay0=true/\e.canLay0=true/\min f.depth e.depth<=60/\Q (PyData.eqv f e))\/
   (∃m n a b,x= .ref m/\y= .ref n/\Z9 M m=some a/\Z9 M n=some b/\(a.all fun g=>Y0 g.2)=true/\(b.all fun g=>Y0 g.2)=true/\Q (eqKV a b))\/(∃m n c,x= .ref m/\y= .ref n/\Z7 M m=some c/\Z7 M n=some []/\Q c.isEmpty)\/(∃c d,(x= .tup c\/x= .gtup c)/\(y= .tup d\/y= .gtup d)/\c.all Y0=true/\d.all Y0=true/\Q (eqFs c d))
def itemsD(M:Z2):D->Option (LD)
 | .ref n=>Z7 M n
 | .tup a=>some a
 | .gtup a=>some a
 | _=>none
def inQ(M:Z2):D->D->(Bool->Prop)->Prop
 | .str a,.str b,Q=>Q (!(Lm b a 0 b.length 1).isEmpty)
 | x,.ref n,Q=>(∃c,Z7 M n=some c/\Y0 x=true/\c.all Y0=true/\Q (inD x c))\/(∃d k,Z9 M n=some d/\keyD x=some k/\Q (valD d k).isSome)\/(∃(f:LD) (c:List (LD)),x= .tup f/\Z7 M n=some (c.map .tup)/\f.all Y0=true/\(c.all fun e=>e.all Y0)=true/\Q (c.any fun e=>eqFs e f))\/∃(d:List (List Key×D)) (g:List Key),x= .tup (g.map kD)/\Zx M n=some d/\Q (valD d g).isSome
 | x,.tup c,Q=>Y0 x=true/\c.all Y0=true/\Q (inD x c)
 | x,.gtup c,Q=>Y0 x=true/\c.all Y0=true/\Q (inD x c)
 | _,_,_=>False
def nonD(x y:D)(Q:Bool->Prop):Prop:=match y with
 | .non=>match x with
  | .non=>Q true
  | .bl _=>Q false
  | .int _=>Q false
  | .str _=>Q false
  | .tup _=>Q false
  | .ref _=>Q false
  | .exn _ _ _ _=>Q false
  | _=>False
 | _=>False
def cmD(M:Z2)(op:Cm)(x y:D)(Q:Bool->Prop):Prop:=match op with
 | .lt=>Rk x y fun i j=>Q (decide (i<j))
 | .gt=>Rk x y fun i j=>Q (decide (j<i))
 | .ge=>Rk x y fun i j=>Q (decide (j<=i))
 | .eq=>eqD M x y Q
 | .ne=>eqD M x y fun b=>Q (!b)
 | .is=>nonD x y Q
 | .isin=>inQ M x y Q
 | .notin=>inQ M x y fun b=>Q (!b)
def truD(M:Z2):D->(Bool->Prop)->Prop
 | .non,Q=>Q false
 | .bl b,Q=>Q b
 | .int i,Q=>Q (i !=0)
 | .str x,Q=>x.length<=sizeLine/\Q ((x.length:Int) !=0)
 | .tup a,Q=>Q (!a.isEmpty)
 | .ref n,Q=>(∃a,Z7 M n=some a/\Q (!a.isEmpty))\/(∃a,Z9 M n=some a/\Q (!a.isEmpty))
 | _,_=>False
def ixD(M:Z2):D->D->(D->Prop)->Prop
 | .ref n,k,Q=>(∃b i d,k= .int i/\Z7 M n=some b/\atI b i=some d/\Q d)\/(∃a y d,Zc1 M n=some a/\keyD k=some y/\valD a y=some d/\Q d)\/(∃a e d,Zx M n=some a/\k= .tup (e.map kD)/\valD a e=some d/\Q d)
 | .tup b,.int i,Q=>∃d,atI b i=some d/\Q d
 | .gtup b,.int i,Q=>∃d,atI b i=some d/\Q d
 | .str z,.int i,Q=>z.length<=sizeLine/\∃c,atI z.cps.toList i=some c/\Q (.str ⟨#[c]⟩)
 | _,_,_=>False
def cutD{a:Type}(xs:List a)(lo hi:Option Int):List a:=(xs.drop (HT.sIx xs.length 0 lo)).take (HT.sIx xs.length xs.length hi - HT.sIx xs.length 0 lo)
def slD:D->Option Int->Option Int->Z2->DK->Prop
 | .str z,b,c,M,Q=>z.length<=sizeLine/\Q (.str (Lz z b c)) M
 | .ref n,b,c,M,Q=>∃a,Z7 M n=some a/\Q (.ref M.length) (M++[.lst (cutD a b c)])
 | .tup a,b,c,M,Q=>¬(HT.sIx a.length 0 b=0/\HT.sIx a.length a.length c=a.length)/\Q (.tup (cutD a b c)) M
 | _,_,_,_,_=>False
def tyD(M:Z2):D->Option String
 | .non=>some "NoneType"
 | .bl _=>some "bool"
 | .int _=>some "int"
 | .str _=>some "str"
 | .tup _=>some "tuple"
 | .ref n=>match M[n]? with
  | some (.lst _)=>some "list"
  | some (.frz _)=>none
  | some (.dct _)=>some "dict"
  | some (.fdc _)=>none
  | some (.dcp _)=>none
  | none=>none
 | _=>none
def isD(K:Ab)(M:Z2):D->D->(Bool->Prop)->Prop
 | .exn _ C _ _,.cls c,Q=>∃b,ExcIs K C/\Kd K (.ref C) (.ref c)=some b/\Q b
 | .exn _ C _ _,.ty c,Q=>∃b,ExcIs K C/\Kd K (.ref C) (.type c)=some b/\Q b
 | .exn _ C _ _,.tup e,Q=>∃(a:List Uc) (b:Bool),e=a.map D.cls/\ExcIs K C/\PySem.W.kitAny K (.ref C) (a.map Value.ref)=some b/\Q b
 | d,.ty c,Q=>∃t b,tyD M d=some t/\Kd K (.type t) (.type c)=some b/\Q b
 | _,_,_=>False
def lenD(x:D)(M:Z2)(Q:DK):Prop:=match x with
 | .ref n=>(∃a,Z7 M n=some a/\Q (.int a.length) M)\/(∃a,Z9 M n=some a/\Q (.int a.length) M)
 | .tup a=>Q (.int a.length) M
 | .str x=>x.length<=sizeLine/\Q (.int x.length) M
 | _=>False
def bfD(K:Ab)(b:Bf)(l:LD)(M:Z2)(Q:DK):Prop:=match b with
 | .len=>at1 l fun x=>lenD x M Q
 | .isinst=>at2 l fun d c=>isD K M d c fun b=>Q (.bl b) M
 | .min2=>at2 l fun x y=>Rk x y fun i j=>Q (.int (if j<i then j else i)) M
 | .max2=>at2 l fun x y=>Rk x y fun i j=>Q (.int (if j >i then j else i)) M
 | .dict1=>at1 l fun x=>Qz x fun n=>(∃e,Z9 M n=some e/\Q (.ref M.length) (M++[.dct e]))\/(∃a:KQ9,Z7 M n=some (Vl a)/\a.length<sizeLine/\Q (.ref M.length) (M++[.dct (Ri a)]))
 | .int1=>at1 l fun x=>onBl x fun b=>Q (.int (if b then 1 else 0)) M
def setD(b:Bool)(n:Nat)(M:Z2)(Q:DK):Prop:=match b with
 | true=>∃c:List Int,Z7 M n=some (c.map .int)/\c.length<64/\∀d:List Int,d.Pairwise (· < ·)->(∀i,i∈d↔i∈c)->Q (.ref M.length) (M++[.lst (d.map .int)])
 | false=>∃e:List Key,Z7 M n=some (e.map kD)/\e.length+1<scanBound/\∀a:List Key,a.Nodup->(∀k,k∈a↔k∈e)->Q (.int a.length) M
def mtD(m:Mt)(o:D)(l:LD)(M:Z2)(Q:DK):Prop:=Qz o fun n=>match m with
 | .append=>at1 l fun d=>∃b,Z4 M n=some b/\b.length<sizeLine/\Q .non (M.set n (.lst (b++[d])))
 | .setd=>at2 l fun t z=>∃(a:List (List Key×D)) (c:List Key),Zx M n=some a/\t= .tup (c.map kD)/\a.length<sizeLine/\(∀d,valD a c=some d->Q d M)/\(valD a c=none->Q z (M.set n (.dcp (putD a c z))))
 | .clearD=>at0 l (∃a,Z9 M n=some a/\Q .non (M.set n (.dct [])))
 | .get2=>at2 l fun k z=>∃a y,Z9 M n=some a/\keyD k=some y/\Q ((valD a y).getD z) M
 | .pop0=>at0 l (∃b d,Z4 M n=some b/\b[b.length - 1]?=some d/\Q d (M.set n (.lst b.dropLast)))
 | .clear=>at0 l (∃b,Z4 M n=some b/\Q .non (M.set n (.lst [])))
 | .extend=>at1 l fun t=>Qz t fun m=>∃b e,Z4 M n=some b/\Z4 M m=some e/\b.length+e.length<=sizeLine/\Q .non (M.set n (.lst (b++e)))
def mtK(m:Mt)(o:D)(M:Z2):Prop:=Qz o fun n=>match m with
 | .clearD=>(Z9 M n).isSome=true
 | .get2=>(Z9 M n).isSome=true
 | .setd=>(Zx M n).isSome=true
 | _=>(Z7 M n).isSome=true
def tgD:LQ->D->DEnv->(DEnv->Prop)->Prop
 | [i],d,a,Q=>Q (a.set i (some d))
 | b,.tup c,a,Q=>c.length=b.length/\Q ((b.zip c).foldl (fun a p=>a.set p.1 (some p.2)) a)
 | _,_,_,_=>False
inductive Own where
 | no | lst (n:Nat) | enm (n:Nat) | dct (n:Nat) | two (n m:Nat)
def Jg(kvs:KQ9):LD:=kvs.map fun p=>kD p.1
def Yp7(n:Nat)(M:Z2)(Q:Z2->Prop):Prop:=∃a,M[n]?=some (.fdc a)/\Q (M.set n (.dct a))
def X04(n:Nat)(R:DEnds):DEnds:={nx:=fun a M=>Yp7 n M (R.nx a),rt:=fun d M=>Yp7 n M (R.rt d),bk:=fun _ _=>False,ct:=fun _ _=>False}
def C4(xs:LD):LD:=xs.mapIdx fun i d=> .tup [.int i,d]
def zipT(ys a:LD):LD:=(ys.zip a).map fun p=>D.tup [p.1,p.2]
def zip2(M:Z2)(a b:D)(Q:Own->LD->Prop):Prop:=match a with
 | .ref n=>Qz b fun m=>∃d c,Z7 M n=some d/\Z7 M m=some c/\Q (.two n m) (zipT d c)
 | .tup d=>Zy3 b fun c=>Q .no (zipT d c)
 | _=>False
def itD(M:Z2):D->(Own->LD->Prop)->Prop
 | .ref n,R=>∃a,Z7 M n=some a/\R (.lst n) a
 | .tup a,R=>R .no a
 | .gtup a,R=>R .no a
 | _,_=>False
def Js(lo:Int)(n:Nat):LD:=(Ik n).map fun(k:Nat)=>D.int (lo+(k:Int))
def Pp(own:Own)(xs:LD)(M:Z2):Prop:=match own with
 | .lst n=>Z7 M n=some xs
 | .enm n=>∃a,Z7 M n=some a/\xs=C4 a
 | .dct n=>∃b,M[n]?=some (.fdc b)/\xs=Jg b
 | .two n m=>∃a c,Z7 M n=some a/\Z7 M m=some c/\xs=zipT a c
 | .no=>True
def forD(own:Own)(xs:LD)(e:LQ)(body:DS):LD->DEnds->DEnv->Z2->Prop
 | [],R,c,M=>Pp own xs M/\R.nx c M
 | d::r,R,c,M=>Pp own xs M/\tgD e d c fun b=>body {nx:=fun a f=>forD own xs e body r R a f,rt:=R.rt,bk:=R.nx,ct:=fun a f=>forD own xs e body r R a f} b M
def Np(own:Own)(xs:LD)(e:LQ)(g:DT)(f:DE)(z:Nat):LD->DEnv->Z2->(Z2->Prop)->Prop
 | [],_,M,Q=>Pp own xs M/\Q M
 | d::r,j,M,Q=>Pp own xs M/\tgD e d j fun a=>g a M fun b i=>if b=true then
   f a i fun y h=>∃c,Z4 h z=some c/\c.length<sizeLine/\Np own xs e g f z r a (h.set z (.lst (c++[y]))) Q
   else Np own xs e g f z r a i Q
def capD(b:List (Option Nat))(a:DEnv):DEnv:=b.map fun o=>o.bind fun j=>(a[j]?).join
abbrev noX:DX:=fun _ _ _=>False
structure Cfg where
 K:Ab
 Γ:List DSp
 G:LD
mutual
def te(c:Cfg)(X:DX):E->DE
 | .var i,g,M,Q=>match g[i]? with
  | some (some d)=>Q d M
  | _=>False
 | .int i,_,M,Q=>Q (.int i) M
 | .bl b,_,M,Q=>Q (.bl b) M
 | .non,_,M,Q=>Q .non M
 | .str x,_,M,Q=>Q (.str x) M
 | .ty n,_,M,Q=>Q (.ty (Ym n)) M
 | .glb k,_,M,Q=>match c.G[k]? with
  | some d=>Q d M
  | none=>False
 | .bin w a b,g,M,Q=>te c X a g M fun x j=>te c X b g j fun y p=>opD w x y p Q
 | .neg a,g,M,Q=>te c X a g M fun x j=>match x with
  | .int i=>Q (.int (-i)) j
  | _=>False
 | .not a,g,M,Q=>te c X a g M fun x j=>truD j x fun b=>Q (.bl (!b)) j
 | .cmp w a b,g,M,Q=>te c X a g M fun x j=>te c X b g j fun y p=>cmD p w x y fun r=>Q (.bl r) p
 | .bop k q,g,M,Q=>tbop c X k q g M Q
 | .ife t a b,g,M,Q=>te c X t g M fun x j=>truD j x fun r=>if r=true then te c X a g j Q else te c X b g j Q
 | .lst q,g,M,Q=>tes c X q g M fun s j=>s.length<=sizeLine/\Q (.ref j.length) (j++[.lst s])
 | .tup q,g,M,Q=>tes c X q g M fun s j=>s.length<=sizeLine/\Q (.tup s) j
 | .dict0,_,M,Q=>Q (.ref M.length) (M++[.dct []])
 | .dictT,_,M,Q=>Q (.ref M.length) (M++[.dcp []])
 | .dct a b,g,M,Q=>te c X a g (M++[.dct []]) fun x j=>te c X b g j fun y p=>∃k,keyD x=some k/\Z9 p M.length=some []/\Q (.ref M.length) (p.set M.length (.dct [(k,y)]))
 | .ix a b,g,M,Q=>te c X a g M fun x j=>te c X b g j fun y p=>ixD p x y fun d=>Q d p
 | .sl a z A,g,M,Q=>te c X a g M fun x j=>teo c X z g j fun l p=>teo c X A g p fun h B=>slD x l h B Q
 | .call f q,g,M,Q=>tes c X q g M fun s j=>match c.Γ[f]? with
  | some D=>D s j Q X
  | none=>False
 | .bf b q,g,M,Q=>tes c X q g M fun s j=>bfD c.K b s j Q
 | .slW a z A,g,M,Q=>te c X a g M fun x j=>teo c X z g j fun l p=>teo c X A g p fun h B=>Zy3 x fun u=>Q (.tup (cutD u l h)) B
 | .lrev a,g,M,Q=>te c X a g M fun x j=>Qz x fun n=>∃u,Z7 j n=some u/\Q (.ref j.length) (j++[.lst u.reverse])
 | .mt m o q,g,M,Q=>te c X o g M fun x j=>mtK m x j/\tes c X q g j fun s p=>mtD m x s p Q
 | .comp _ F C H I e,g,M,Q=>tit c X H g M fun v u j=>Np v u C (tcd c noX I) (te c noX e) j.length u (capD F g) (j++[.lst []]) fun p=>Q (.ref j.length) p
def tbop(c:Cfg)(X:DX)(k:Bool):Es->DE
 | .nil,_,_,_=>False
 | .cons e .nil,a,M,Q=>te c X e a M Q
 | .cons e (.cons f r),a,M,Q=>te c X e a M fun x d=>truD d x fun b=>if b=k then tbop c X k (.cons f r) a d Q else Q x d
def tes(c:Cfg)(X:DX):Es->DA
 | .nil,_,M,Q=>Q [] M
 | .cons e r,a,M,Q=>te c X e a M fun d g=>tes c X r a g fun b f=>Q (d::b) f
def teo(c:Cfg)(X:DX):Eo->DEnv->Z2->(Option Int->Z2->Prop)->Prop
 | .no,_,M,Q=>Q none M
 | .yes e,a,M,Q=>te c X e a M fun d b=>match d with
  | .int i=>Q (some i) b
  | _=>False
def tcd(c:Cfg)(X:DX):Eo->DT
 | .no,_,M,Q=>Q true M
 | .yes e,d,M,Q=>te c X e d M fun x a=>truD a x fun b=>Q b a
def tit(c:Cfg)(X:DX):It->DEnv->Z2->(Own->LD->Z2->Prop)->Prop
 | .seq e,g,M,Q=>te c X e g M fun d f=>itD f d fun i h=>Q i h f
 | .rng1 a,g,M,Q=>te c X a g M fun d f=>match d with
  | .int j=> -(2 ^ 62)<=j/\j<2 ^ 62/\Q .no (Js 0 j.toNat) f
  | _=>False
 | .enm e,g,M,Q=>te c X e g M fun d f=>match d with
  | .ref n=>∃h,Z7 f n=some h/\Q (.enm n) (C4 h) f
  | _=>False
 | .zip k,g,M,Q=>tes c X k g M fun l f=>at2 l fun a b=>zip2 f a b fun o h=>Q o h f
end
theorem iseq09{c X e g M Q}:tit c X (.seq e) g M Q=(te c X e g M fun d f=>itD f d fun i h=>Q i h f):=rfl
def irng119{c X a g M Q}:tit c X (.rng1 a) g M Q=(te c X a g M fun d f=>match d with|.int j=> -(2 ^ 62)<=j/\j<2 ^ 62/\Q .no (Js 0 j.toNat) f|_=>False):=rfl
def ienm29{c X e g M Q}:tit c X (.enm e) g M Q=(te c X e g M fun d f=>match d with|.ref n=>∃h,Z7 f n=some h/\Q (.enm n) (C4 h) f|_=>False):=rfl
def izip39{c X k g M Q}:tit c X (.zip k) g M Q=(tes c X k g M fun l f=>at2 l fun a b=>zip2 f a b fun o h=>Q o h f):=rfl
def dno09{c X u1 M Q}:tcd c X .no u1 M Q=(Q true M):=rfl
def dyes19{c X e d M Q}:tcd c X (.yes e) d M Q=(te c X e d M fun x a=>truD a x fun b=>Q b a):=rfl
def ono09{c X u1 M Q}:teo c X .no u1 M Q=(Q none M):=rfl
def oyes19{c X e a M Q}:teo c X (.yes e) a M Q=(te c X e a M fun d b=>match d with|.int i=>Q (some i) b|_=>False):=rfl
def lnil09{c X u1 M Q}:tes c X .nil u1 M Q=(Q [] M):=rfl
def lcons19{c X e r a M Q}:tes c X (.cons e r) a M Q=(te c X e a M fun d g=>tes c X r a g fun b f=>Q (d::b) f):=rfl
def bnil09{c X k u1 u2 u3}:tbop c X k .nil u1 u2 u3=(False):=rfl
def bcons19{c X k e a M Q}:tbop c X k (.cons e .nil) a M Q=(te c X e a M Q):=rfl
def bcons29{c X k e f r a M Q}:tbop c X k (.cons e (.cons f r)) a M Q=(te c X e a M fun x d=>truD d x fun b=>if b=k then tbop c X k (.cons f r) a d Q else Q x d):=rfl
def evar9{c X i g M Q}:te c X (.var i) g M Q=(match g[i]? with|some (some d)=>Q d M|_=>False):=rfl
def eint9{c X i u1 M Q}:te c X (.int i) u1 M Q=(Q (.int i) M):=rfl
def ebl9{c X b u1 M Q}:te c X (.bl b) u1 M Q=(Q (.bl b) M):=rfl
def enon9{c X u1 M Q}:te c X .non u1 M Q=(Q .non M):=rfl
def estr9{c X x u1 M Q}:te c X (.str x) u1 M Q=(Q (.str x) M):=rfl
def ety9{c X n u1 M Q}:te c X (.ty n) u1 M Q=(Q (.ty (Ym n)) M):=rfl
def eglb9{c X k u1 M Q}:te c X (.glb k) u1 M Q=(match c.G[k]? with|some d=>Q d M|none=>False):=rfl
def ebin9{c X w a b g M Q}:te c X (.bin w a b) g M Q=(te c X a g M fun x j=>te c X b g j fun y p=>opD w x y p Q):=rfl
def eneg9{c X a g M Q}:te c X (.neg a) g M Q=(te c X a g M fun x j=>match x with|.int i=>Q (.int (-i)) j|_=>False):=rfl
def enot9{c X a g M Q}:te c X (.not a) g M Q=(te c X a g M fun x j=>truD j x fun b=>Q (.bl (!b)) j):=rfl
def ecmp9{c X w a b g M Q}:te c X (.cmp w a b) g M Q=(te c X a g M fun x j=>te c X b g j fun y p=>cmD p w x y fun r=>Q (.bl r) p):=rfl
def ebop9{c X k q g M Q}:te c X (.bop k q) g M Q=(tbop c X k q g M Q):=rfl
def eife9{c X t a b g M Q}:te c X (.ife t a b) g M Q=(te c X t g M fun x j=>truD j x fun r=>if r=true then te c X a g j Q else te c X b g j Q):=rfl
def elst9{c X q g M Q}:te c X (.lst q) g M Q=(tes c X q g M fun s j=>s.length<=sizeLine/\Q (.ref j.length) (j++[.lst s])):=rfl
def etup9{c X q g M Q}:te c X (.tup q) g M Q=(tes c X q g M fun s j=>s.length<=sizeLine/\Q (.tup s) j):=rfl
def edict09{c X u1 M Q}:te c X .dict0 u1 M Q=(Q (.ref M.length) (M++[.dct []])):=rfl
def edictT9{c X u1 M Q}:te c X .dictT u1 M Q=(Q (.ref M.length) (M++[.dcp []])):=rfl
def edct9{c X a b g M Q}:te c X (.dct a b) g M Q=(te c X a g (M++[.dct []]) fun x j=>te c X b g j fun y p=>∃k,keyD x=some k/\Z9 p M.length=some []/\Q (.ref M.length) (p.set M.length (.dct [(k,y)]))):=rfl
def eix9{c X a b g M Q}:te c X (.ix a b) g M Q=(te c X a g M fun x j=>te c X b g j fun y p=>ixD p x y fun d=>Q d p):=rfl
def esl9{c X a z A g M Q}:te c X (.sl a z A) g M Q=(te c X a g M fun x j=>teo c X z g j fun l p=>teo c X A g p fun h B=>slD x l h B Q):=rfl
def ecall9{c X f q g M Q}:te c X (.call f q) g M Q=(tes c X q g M fun s j=>match c.Γ[f]? with|some D=>D s j Q X|none=>False):=rfl
def ebf9{c X b q g M Q}:te c X (.bf b q) g M Q=(tes c X q g M fun s j=>bfD c.K b s j Q):=rfl
def eslW9{c X a z A g M Q}:te c X (.slW a z A) g M Q=(te c X a g M fun x j=>teo c X z g j fun l p=>teo c X A g p fun h B=>Zy3 x fun u=>Q (.tup (cutD u l h)) B):=rfl
def elrev9{c X a g M Q}:te c X (.lrev a) g M Q=(te c X a g M fun x j=>Qz x fun n=>∃u,Z7 j n=some u/\Q (.ref j.length) (j++[.lst u.reverse])):=rfl
def emt9{c X m o q g M Q}:te c X (.mt m o q) g M Q=(te c X o g M fun x j=>mtK m x j/\tes c X q g j fun s p=>mtD m x s p Q):=rfl
def ecomp9{c X u1 F C H I e g M Q}:te c X (.comp u1 F C H I e) g M Q=(tit c X H g M fun v u j=>Np v u C (tcd c noX I) (te c noX e) j.length u (capD F g) (j++[.lst []]) fun p=>Q (.ref j.length) p):=rfl
def tt(c:Cfg)(X:DX)(e:E):DT:=fun d M Q=>te c X e d M fun x a=>truD a x fun b=>Q b a
def tkD:Tk->DEnds->DEnv->DK
 | .drop,R,a=>fun _ M=>R.nx a M
 | .ret,R,_=>R.rt
 | .set j,R,a=>fun d M=>R.nx (a.set j (some d)) M
def excD:LD->Option D
 | []=>some .non
 | [d]=>some d
 | _=>none
mutual
def ts(c:Cfg)(X:DX):S->DS
 | .ret e,R,l,M=>te c X e l M R.rt
 | .expr e,R,l,M=>te c X e l M fun _ u=>R.nx l u
 | .setL w e,R,l,M=>te c X e l M fun d u=>Qz d fun n=>∃A,Z7 u n=some A/\A.length=w.length/\R.nx ((w.zip A).foldl (fun l p=>l.set p.1 (some p.2)) l) u
 | .set w e,R,l,M=>te c X e l M fun d u=>tgD w d l fun I=>R.nx I u
 | .put o i v,R,l,M=>te c X v l M fun d u=>te c X o l u fun x B=>te c X i l B fun y F=>match x with
  | .ref n=>(∃E k j,y= .int k/\Z4 F n=some E/\ixN E.length k=some j/\R.nx l (F.set n (.lst (E.set j d))))\/
    (∃q k,Z9 F n=some q/\keyD y=some k/\q.length<sizeLine/\R.nx l (F.set n (.dct (putD q k d))))\/
    (∃q N,Zx F n=some q/\y= .tup (N.map kD)/\q.length<sizeLine/\R.nx l (F.set n (.dcp (putD q N d))))
  | _=>False
 | .ite t a b,R,l,M=>tt c X t l M fun r u=>if r=true then tss c X a R l u else tss c X b R l u
 | .for_ w P b,R,l,M=>tit c X P l M fun J E u=>forD J E w (tss c X b) E R l u
 | .forK w e b,R,l,M=>te c X e l M fun d u=>match d with
  | .ref n=>∃q,Z9 u n=some q/\forD (.dct n) (Jg q) w (tss c X b) (Jg q) (X04 n R) l (u.set n (.fdc q))
  | _=>False
 | .while_ t b,R,l,M=>∃W:Nat->DEnv->Z2->Prop,(∃m,W m l M)/\∀m l M,W m l M->tt c X t l M fun r u=>if r=true then
   tss c X b {nx:=fun z B=>∃H,H<m/\W H z B,rt:=R.rt,bk:=R.nx,ct:=fun z B=>∃H,H<m/\W H z B} l u else R.nx l u
 | .raise k L,_,l,M=>match c.G[k]? with
  | some (.cls C)=>tes c X L l M fun A u=>match excD A with
   | some r=>X C r u
   | none=>False
  | _=>False
 | .tryN h f L g s,R,l,M=>match c.G[g]? with
  | some (.cls D)=>tes c noX L l M fun A u=>match c.Γ[f]? with
   | some O=>O A u (tkD h R l) fun C _ B=>Catch c.K C D true/\tss c noX s R l B
   | none=>False
  | _=>False
def tss(c:Cfg)(X:DX):Ss->DS
 | .nil,R,b,M=>R.nx b M
 | .cons s r,R,b,M=>ts c X s {R with nx:=fun a d=>tss c X r R a d} b M
end
theorem sret9{c X e R l M}:ts c X (.ret e) R l M=(te c X e l M R.rt):=rfl
def sexpr9{c X e R l M}:ts c X (.expr e) R l M=(te c X e l M fun _ u=>R.nx l u):=rfl
def ssetL9{c X w e R l M}:ts c X (.setL w e) R l M=(te c X e l M fun d u=>Qz d fun n=>∃A,Z7 u n=some A/\A.length=w.length/\R.nx ((w.zip A).foldl (fun l p=>l.set p.1 (some p.2)) l) u):=rfl
def sset9{c X w e R l M}:ts c X (.set w e) R l M=(te c X e l M fun d u=>tgD w d l fun I=>R.nx I u):=rfl
def sput9{c X o i v R l M}:ts c X (.put o i v) R l M=(te c X v l M fun d u=>te c X o l u fun x B=>te c X i l B fun y F=>match x with
  | .ref n=>(∃E k j,y= .int k/\Z4 F n=some E/\ixN E.length k=some j/\R.nx l (F.set n (.lst (E.set j d))))\/
    (∃q k,Z9 F n=some q/\keyD y=some k/\q.length<sizeLine/\R.nx l (F.set n (.dct (putD q k d))))\/
    (∃q N,Zx F n=some q/\y= .tup (N.map kD)/\q.length<sizeLine/\R.nx l (F.set n (.dcp (putD q N d))))
  | _=>False):=rfl
def site9{c X t a b R l M}:ts c X (.ite t a b) R l M=(tt c X t l M fun r u=>if r=true then tss c X a R l u else tss c X b R l u):=rfl
def sfor_9{c X w P b R l M}:ts c X (.for_ w P b) R l M=(tit c X P l M fun J E u=>forD J E w (tss c X b) E R l u):=rfl
def sforK9{c X w e b R l M}:ts c X (.forK w e b) R l M=(te c X e l M fun d u=>match d with
  | .ref n=>∃q,Z9 u n=some q/\forD (.dct n) (Jg q) w (tss c X b) (Jg q) (X04 n R) l (u.set n (.fdc q))
  | _=>False):=rfl
def swhile_9{c X t b R l M}:ts c X (.while_ t b) R l M=(∃W:Nat->DEnv->Z2->Prop,(∃m,W m l M)/\∀m l M,W m l M->tt c X t l M fun r u=>if r=true then
   tss c X b {nx:=fun z B=>∃H,H<m/\W H z B,rt:=R.rt,bk:=R.nx,ct:=fun z B=>∃H,H<m/\W H z B} l u else R.nx l u):=rfl
def sraise9{c X k L u1 l M}:ts c X (.raise k L) u1 l M=(match c.G[k]? with
  | some (.cls C)=>tes c X L l M fun A u=>match excD A with
   | some r=>X C r u
   | none=>False
  | _=>False):=rfl
def stryN9{c X h f L g s R l M}:ts c X (.tryN h f L g s) R l M=(match c.G[g]? with
  | some (.cls D)=>tes c noX L l M fun A u=>match c.Γ[f]? with
   | some O=>O A u (tkD h R l) fun C _ B=>Catch c.K C D true/\tss c noX s R l B
   | none=>False
  | _=>False):=rfl
def REnv(w:Vw)(a:DEnv)(b:L2.St):Prop:=a.length=b.length/\∀(i:Nat) d,a[i]?=some (some d)->∃v,b[i]?=some (some v)/\RD w d v
def REnv.ext{w c:Vw}{a:DEnv}{b:L2.St}(h:REnv w a b)(x:Ext w c):REnv c a b:=
 ⟨h.1,fun i d e=>by let⟨v,q,r⟩:=h.2 i d e;show⟨v,q,r.ext x⟩⟩
def REnv.set{a:DEnv}{c:L2.St}{d:D}{v:V}(h:REnv w a c)(i:Nat)(r:RD w d v):REnv w (a.set i (some d)) (c.set i (some v)):=by
 refine⟨by simp[h.1],fun j g e=>?_⟩
 by_cases b:i=j
 .subst b
  by_cases f:i<a.length
  .rw[Di f] at e
   cases e
   show⟨v,by rw[Di (by rw[<-h.1];show f)],r⟩
  .rw[Dh (by simp;lia)] at e
   cases e
 .rw[Db b] at e
  rw[Db b]
  show h.2 j g e
structure StOk(w0 w:Vw)(σD:DEnv)(M:Z2)(σ:L2.St)(H:Hp):Prop where
 heap:w.H=H
 ext:Ext w0 w
 rs:RS w M
 env:REnv w σD σ
def StOk.next{w0 w b:Vw}{a:DEnv}{c:L2.St}{H:Hp}(s:StOk w0 w a M c H)(x:Ext w b)(r:RS b M'):StOk w0 b a M' c b.H:=
 ⟨rfl,s.ext.trans x,r,s.env.ext x⟩
def Aft(w:Vw)(QD:DK)(Q:VK):Prop:=∀v a d b,Ext w a->RS a b->RD a d v->QD d b->Q v a.H
def tF(w0:Vw)(f:DE):TE:=fun c H Q=>∃w a M b,StOk w0 w a M c H/\f a M b/\Aft w b Q
def tFA(w0:Vw)(f:DA):TA:=fun h H Q=>∃w a M e,StOk w0 w a M h H/\f a M e/\∀c b d g,Ext w b->RS b g->RDs b d c->e d g->Q c b.H
def tFT(w0:Vw)(f:DT):TT:=fun g H Q=>∃w a M d,StOk w0 w a M g H/\f a M d/\∀b c e,Ext w c->RS c e->d b e->Q b c.H
def tFO(w0:Vw)(f:DEnv->Z2->(Option Int->Z2->Prop)->Prop):TO:=fun g H Q=>∃w a M d,StOk w0 w a M g H/\f a M d/\∀b c e,Ext w c->RS c e->d b e->Q b c.H
def tFS(w0:Vw)(f:DS):TS:=fun R h H=>∃w g M d,StOk w0 w g M h H/\f d g M/\
 (∀b c a e,Ext w c->RS c e->REnv c a b->d.nx a e->R.nx b c.H)/\Aft w d.rt R.rt/\
 (∀b c a e,Ext w c->RS c e->REnv c a b->d.bk a e->R.bk b c.H)/\
 (∀b c a e,Ext w c->RS c e->REnv c a b->d.ct a e->R.ct b c.H)
def xkOf(w:Vw)(Z:DX):XK:=fun c g f=>∃C d r b a e,c= .ref C/\g=some d/\b.H=f/\Ext w b/\RS b e/\f d=some (.xd [("row",r)])/\RD b a r/\Z C a e
def spF(K:Ab)(sp:DSp):Sp:=fun f H Q E=>∃w b M d Z,w.K=K/\w.H=H/\RS w M/\RDs w b f/\sp b M d Z/\Aft w d Q/\∀a c e,xkOf w Z a c e->E a c e
def Aft.ext{w a:Vw}(h:Aft w QD Q)(x:Ext w a):Aft a QD Q:=fun v b d M y r q p=>h v b d M (x.trans y) r q p
section
variable{X:Cx}{e:Expr}{w0:Vw}
def PE.imp{t t':TE}(h:PE X e t)(k:∀a H Q,t' a H Q->t a H Q):PE X e t':=fun b s a H Q I q=>h b s a H Q I (k a H Q q)
def PT.imp{t t':TT}(h:PT X e t)(k:∀a H Q,t' a H Q->t a H Q):PT X e t':=fun b s a H Q I q=>h b s a H Q I (k a H Q q)
def PA.imp{t t':TA}(h:PA X es t)(k:∀a H Q,t' a H Q->t a H Q):PA X es t':=fun c b s a H Q I q=>h c b s a H Q I (k a H Q q)
def PS.imp{st:Stmt}{t t':TS}(h:PS X st t)(k:∀R a H,t' R a H->t R a H):PS X st t':=fun b s a H R I q=>h b s a H R I (k R a H q)
def PSs.imp{st:List Stmt}{t t':TS}(h:PSs X st t)(k:∀R a H,t' R a H->t R a H):PSs X st t':=fun b s a H R I q=>h b s a H R I (k R a H q)
end
def rF(w0:Vw)(g:D->D->Z2->DK->Prop):R2:=fun x y H Q=>∃w M b a c,w.H=H/\Ext w0 w/\RS w M/\RD w b x/\RD w a y/\g b a M c/\Aft w c Q
def Zf{w:Vw}{i:Int}{v:V}:RD w (.int i) v↔v= .int i:=Mf
def Zq{w:Vw}{i:Str}{v:V}:RD w (.str i) v↔v= .str i:=Mf
def Xb{w:Vw}{i:Bool}{v:V}:RD w (.bl i) v↔v= .bl i:=Mf
def Zw{w:Vw}{v:V}:RD w .non v↔v= .non:=Mf
def Yd4{w:Vw}{n:String}{v:V}:RD w (.ty n) v↔v= .ty n:=Mf
def N8{w:Vw}{n:Uc}{v:V}:RD w (.cls n) v↔v= .ref n:=Mf
def Zk{i:Nat}{v:V}:RD w (.ref i) v↔i<w.n/\v= .ref (w.μ i):=Mf
def Yb{v:V}:RD w (.tup ds) v↔∃a vs,v= .ref a/\w.H a=some (.tup vs)/\RDs w ds vs:=Mf
def Vn{v:V}:RD w (.gtup ds) v↔∃a vs,v= .ref a/\SqT w.K w.H a vs/\RDs w ds vs:=Mf
def Z40{e C b:Uc}{a:D}{v:V}:RD w (.exn e C b a) v↔v= .ref e/\w.H e=some (XO e (.ref C) (some b))/\∃r,w.H b=some (.xd [("row",r)])/\RD w a r:=Iff.of_eq (by rw[RD])
def RDs.empty(h:RDs w ds []):ds=[]:=by
 have:=h.length
 show Ig.mp this.symm
def Yi4{n:Nat}(h:Z4 M n=some xs):Z7 M n=some xs:=by
 unfold Z4 at h
 unfold Z7
 split at h
 .rename_i e;rw[e];show h
 .cases h
def G9{n:Nat}(h:Z4 M n=some xs):M[n]?=some (.lst xs):=by
 unfold Z4 at h
 split at h
 .rename_i e;rw[e];cases h;rfl
 .cases h
def Vy{n:Nat}(h:Z9 M n=some xs):M[n]?=some (.dct xs):=by
 unfold Z9 at h
 split at h
 .rename_i e;rw[e];cases h;rfl
 .cases h
def RS.list{n:Nat}(R:RS w M)(h:Z4 M n=some xs):M[n]?=some (.lst xs)/\∃vs,w.H (w.μ n)=some (.lst vs)/\RDs w xs vs:=
 ⟨G9 h,R.cell n _ (G9 h)⟩
set_option tactic.hygienic true in
def RS.listL{n:Nat}(R:RS w M)(h:Z7 M n=some xs):n<w.n/\∃vs,SqL w.K w.H (w.μ n) vs/\RDs w xs vs/\True:=by
 unfold Z7 at h
 split at h
 .rename_i a e
  cases h
  let⟨vs,q,r⟩:=R.cell n _ e
  show⟨by rw[R.len];show(Ac.mp e).1,vs,.inl (.inl q),r,trivial⟩
 .rename_i a e
  cases h
  let⟨vs,q,r⟩:=R.cell n _ e
  show⟨by rw[R.len];show(Ac.mp e).1,vs,q.sq,r,trivial⟩
 .cases h
def Ye9{n:Nat}(h:Z9 M n=some xs):Zc1 M n=some xs:=by
 unfold Zc1;rw[Vy h]
set_option tactic.hygienic true in
def RS.dictF{n:Nat}(R:RS w M)(h:Zc1 M n=some xs):∃vs,Rd w.H (w.μ n) (.dK vs)/\RKV w xs vs:=by
 unfold Zc1 at h
 split at h
 .rename_i c e
  cases h
  let⟨vs,b,a⟩:=R.cell n _ e
  show⟨vs,.inl b,a⟩
 .rename_i c e
  cases h
  let⟨o,vs,b,a⟩:=R.cell n _ e
  show⟨vs,.inr ⟨o,b⟩,a⟩
 .cases h
def RS.dict{n:Nat}(R:RS w M)(h:Z9 M n=some xs):M[n]?=some (.dct xs)/\∃vs,w.H (w.μ n)=some (.dK vs)/\RKV w xs vs:=
 ⟨Vy h,R.cell n _ (Vy h)⟩
def Wo{p:Uc}(R:RS w M)(a:w.H p=none)(r:RDs w xs vs):Ext w (w.push p (.lst vs))/\RS (w.push p (.lst vs)) (M++[.lst xs])/\RD (w.push p (.lst vs)) (.ref M.length) (.ref p):=by
 refine⟨Xp a,R.push a ⟨vs,Zl,r.ext (Xp a)⟩,Zk.mpr ⟨?_,?_⟩⟩
 .change M.length<w.n+1
  rw[R.len];lia
 .change V.ref p=V.ref (if M.length=w.n then p else w.μ M.length)
  rw[nh R.len.symm]
def Z48{n:Nat}(h:Zx M n=some xs):M[n]?=some (.dcp xs):=by
 unfold Zx at h
 split at h
 .rename_i e;rw[e];cases h;rfl
 .cases h
def RS.dictP{n:Nat}(R:RS w M)(h:Zx M n=some xs):M[n]?=some (.dcp xs)/\∃vs,w.H (w.μ n)=some (.dT vs)/\RKV w xs vs:=
 ⟨Z48 h,R.cell n _ (Z48 h)⟩
def Zj5{p:Uc}(R:RS w M)(a:w.H p=none)(r:RKV w xs vs):Ext w (w.push p (.dT vs))/\RS (w.push p (.dT vs)) (M++[.dcp xs])/\RD (w.push p (.dT vs)) (.ref M.length) (.ref p):=by
 refine⟨Xp a,R.push a ⟨vs,Zl,r.ext (Xp a)⟩,Zk.mpr ⟨?_,?_⟩⟩
 .change M.length<w.n+1
  rw[R.len];lia
 .change V.ref p=V.ref (if M.length=w.n then p else w.μ M.length)
  rw[nh R.len.symm]
def Q5{n:Nat}(R:RS w M)(a:M[n]?=some (.dcp ys))(h:w.H (w.μ n)=some (.dT us))(r:RKV w xs vs):Ext w (w.alloc (w.μ n) (.dT vs))/\RS (w.alloc (w.μ n) (.dT vs)) (M.set n (.dcp xs)):=
 ⟨Yy h rfl,R.write a rfl rfl h rfl ⟨vs,Zl,r.ext (Yy h rfl)⟩⟩
def Rp{p:Uc}(R:RS w M)(a:w.H p=none)(r:RKV w xs vs):Ext w (w.push p (.dK vs))/\RS (w.push p (.dK vs)) (M++[.dct xs])/\RD (w.push p (.dK vs)) (.ref M.length) (.ref p):=by
 refine⟨Xp a,R.push a ⟨vs,Zl,r.ext (Xp a)⟩,Zk.mpr ⟨?_,?_⟩⟩
 .change M.length<w.n+1
  rw[R.len];lia
 .change V.ref p=V.ref (if M.length=w.n then p else w.μ M.length)
  rw[nh R.len.symm]
def Vh{p:Uc}(R:RS w M)(a:w.H p=none)(r:RDs w xs vs):Ext w (w.alloc p (.tup vs))/\RS (w.alloc p (.tup vs)) M/\RD (w.alloc p (.tup vs)) (.tup xs) (.ref p):=
 ⟨We a,R.alloc a,Yb.mpr ⟨p,vs,rfl,Zl,r.ext (We a)⟩⟩
def X3{n:Nat}(R:RS w M)(a:M[n]?=some (.lst ys))(h:w.H (w.μ n)=some (.lst us))(r:RDs w xs vs):Ext w (w.alloc (w.μ n) (.lst vs))/\RS (w.alloc (w.μ n) (.lst vs)) (M.set n (.lst xs)):=
 ⟨Yy h rfl,R.write a rfl rfl h rfl ⟨vs,Zl,r.ext (Yy h rfl)⟩⟩
def Sm{n:Nat}(R:RS w M)(a:M[n]?=some (.dct ys))(h:w.H (w.μ n)=some (.dK us))(r:RKV w xs vs):Ext w (w.alloc (w.μ n) (.dK vs))/\RS (w.alloc (w.μ n) (.dK vs)) (M.set n (.dct xs)):=
 ⟨Yy h rfl,R.write a rfl rfl h rfl ⟨vs,Zl,r.ext (Yy h rfl)⟩⟩
section
variable{X:Cx}{w0:Vw}
def W6{f:Ua->Ua->Sem Ua}{g:Int->Int->V}{o:D->D->Z2->DK->Prop}{C:Int->Int->Prop}{k:Int->Int->D}(h:OpR X f (rI C g))(m:∀w i j,RD w (k i j) (g i j))
  {pins:PLO} {s:Ub} {b:L2.St} {x y:V} {v u:Ua} {Q:VK} {w:Vw} {M:Z2} {QD:DK} {i j:Int} (I:Inv X pins b w.H s) (d:RelV x v) (c:RelV y u) (R:RS w M) (l:RD w (.int i) x) (e:RD w (.int j) y)
  (n:C i j) (q:QD (k i j) M) (a:Aft w QD Q):⇑X (f v u) (EP X pins b Q) X.xe s:=by
 cases Zf.mp l
 cases Zf.mp e
 show h pins s b w.H _ _ v u Q I d c ⟨i,j,rfl,rfl,n,a _ w _ M (Ext.refl w) R (m w i j) q⟩
def opOf:Op->Operator
 | .add=> .Add | .sub=> .Sub | .mul=> .Mult | .fdiv=> .FloorDiv | .mod=> .Mod | .pow=> .Pow | .band=> .BitAnd | .bxor=> .BitXor
def Zu0{f:Ua->Ua->Sem Ua}{g:Int->Int->V}(h:OpR X f (rI0 g)):OpR X f (rI (fun _ _=>True) g):=fun a s b H x y v u Q I d c zz65=>by let⟨i,j,k,e,_,q⟩:=zz65;show h a s b H x y v u Q I d c ⟨i,j,k,e,q⟩
def RDs.rep{w:Vw}{xs:LD}{vs:LV}(h:RDs w xs vs):∀n:Nat,RDs w (Ds n xs).flatten (Ds n vs).flatten
 | 0=>RDs.nil w
 | n+1=>by
  rw[Ii,Ii,Kv,Kv]
  show h.append (RDs.rep h n)
def Zz2(op:Op):OpR X (binaryOp (opOf op)) (rF w0 (opD op)):=by
 intro b s G H x y v u Q I e d h
 let⟨w,M,N,S,QD,rfl,e0,R,c,f,g,a⟩:=h
 have r:∀w (i:Int),RD w (.int i) (.int i):=fun w i=>Zf.mpr rfl
 cases op with
 | add=>
  cases N with
  | int i=>
   let⟨j,rfl,g2⟩:=Wj g;clear g;have g:=g2
   show W6 (o:=opD .add) (C:=fun _ _=>True) (k:=fun i j=> .int (i+j)) (Zu0 Yr0) (fun w i j=>r w _) I e d R c f trivial g a
  | str z=>
   cases S with
   | str V=>
    cases Zq.mp c;cases Zq.mp f
    show Za9 b s G w.H _ _ v u Q I e d ⟨_,_,rfl,rfl,g.1,a _ w _ M (Ext.refl w) R (Zq.mpr rfl) g.2⟩
   | _=>show Bk g
  | tup l=>
   let⟨Z,rfl,g2⟩:=Pd g;clear g;have g:=g2
   let⟨U,m,rfl,K,q⟩:=Yb.mp c
   let⟨T,t,rfl,L,A⟩:=Yb.mp f
   let⟨g1,g2,g3⟩:=g
   refine Yj7 b s G w.H _ _ v u Q I e d ⟨U,T,m,t,rfl,rfl,.of K,.of L,?_,by rw[q.length,A.length];show g2,fun z=>?_,fun _ p F=>?_⟩
   .intro z;subst z;have:=q.length;simp at this;show g1 (Ig.mp this.symm)
   .subst z
    cases A.empty
    rw[Du] at g3
    show a _ w _ M (Ext.refl w) R c g3
   .let⟨E,D,B⟩:=Vh R F (q.append A)
    show a _ _ _ M E D B g3
  | ref n=>
   let⟨Y,rfl,g2⟩:=Yw g;clear g;have g:=g2
   let⟨K,rfl⟩:=Zk.mp c
   let⟨L,rfl⟩:=Zk.mp f
   let⟨O,W,g1,g2,g3,g4⟩:=g
   let⟨_,m,J,q⟩:=R.list g1
   let⟨_,t,P,A⟩:=R.list g2
   refine Ys5 b s G w.H _ _ v u Q I e d ⟨_,_,m,t,rfl,rfl,J,P,by rw[q.length,A.length];show g3,fun p F=>?_⟩
   let⟨E,D,B⟩:=Wo R F (q.append A)
   show a _ _ _ _ E D B g4
  | _=>show Bk g
 | mul=>
  cases N with
  | int i=>
   let⟨j,rfl,g2⟩:=Wj g;clear g;have g:=g2
   show W6 (o:=opD .add) (C:=IntMulOk) (k:=fun i j=> .int (i * j)) Y95 (fun w i j=>r w _) I e d R c f g.1 g.2 a
  | ref n=>
   let⟨k,rfl,g2⟩:=Wj g;clear g;have g:=g2
   let⟨K,rfl⟩:=Zk.mp c
   cases Zf.mp f
   let⟨O,g1,g2,g3,g4,g5⟩:=g
   let⟨_,m,J,q⟩:=R.list g1
   refine Yr5 b s G w.H _ _ v u Q I e d ⟨_,_,m,rfl,rfl,J,'o','o',by rw[q.length];show g4,fun p F=>?_⟩
   let⟨E,D,B⟩:=Wo R F (q.rep _)
   show a _ _ _ _ E D B g5
  | _=>show Bk g
 | sub=>
  let⟨i,j,rfl,rfl,g2⟩:=Y4 g;clear g;have g:=g2
  show W6 (o:=opD .add) (C:=fun _ _=>True) (k:=fun i j=> .int (i - j)) (Zu0 Yv3) (fun w i j=>r w _) I e d R c f trivial g a
 | fdiv=>
  let⟨i,j,rfl,rfl,g2⟩:=Y4 g;clear g;have g:=g2
  show W6 (o:=opD .add) (C:=Zm7) (k:=fun i j=> .int (qdiv i j)) Zv3 (fun w i j=>by rw[Zm8];show r w _) I e d R c f g.1 g.2 a
 | mod=>
  let⟨i,j,rfl,rfl,g2⟩:=Y4 g;clear g;have g:=g2
  show W6 (o:=opD .add) (C:=fun _ j=>j≠0) (k:=fun i j=> .int (qmod i j)) Yg8 (fun w i j=>by rw[Zf2];show r w _) I e d R c f g.1 g.2 a
 | pow=>
  let⟨i,j,rfl,rfl,g2⟩:=Y4 g;clear g;have g:=g2
  show W6 (o:=opD .add) (C:=CPow) (k:=fun i j=> .int (i ^ j.toNat)) Yq7 (fun w i j=>r w _) I e d R c f g.1 g.2 a
 | band=>
  let⟨i,j,rfl,rfl,g2⟩:=Y4 g;clear g;have g:=g2
  show W6 (o:=opD .add) (C:=fun _ _=>True) (k:=fun i j=> .int (Ma i j)) (Zu0 Ym1) (fun w i j=>r w _) I e d R c f trivial g a
 | bxor=>
  let⟨i,j,rfl,rfl,g2⟩:=Y4 g;clear g;have g:=g2
  show W6 (o:=opD .add) (C:=fun _ _=>True) (k:=fun i j=> .int (Mb i j)) (Zu0 Yv2) (fun w i j=>r w _) I e d R c f trivial g a
end
def rB(w0:Vw)(g:Z2->D->D->(Bool->Prop)->Prop):R2:=fun x y H Q=>∃w M c a d,w.H=H/\w.K=w0.K/\RS w M/\RD w c x/\RD w a y/\g M c a d/\∀b,d b->Q (.bl b) H
mutual
theorem Zl8(R:RS w M):∀(j:PyData) {d:D} {v:V},PD M j d->RD w d v->Rep w.K w.H j v
 | .none,d,v,h,r=>by unfold PD at h;subst h;unfold Rep;show Zw.mp r
 | .bool b,d,v,h,r=>by unfold PD at h;subst h;unfold Rep;show Xb.mp r
 | .int b,d,v,h,r=>by unfold PD at h;subst h;unfold Rep;show Zf.mp r
 | .str b,d,v,h,r=>by unfold PD at h;subst h;unfold Rep;show Zq.mp r
 | .list c,d,v,h,r=>by
  unfold PD at h
  let⟨n,l,rfl,k,i⟩:=h
  let⟨_,rfl⟩:=Zk.mp r
  let⟨_,e,g,f,_⟩:=R.listL k
  unfold Rep
  show⟨_,e,rfl,g,Qs R c i f⟩
 | .tuple c,d,v,h,r=>by
  unfold PD at h
  let⟨l,rfl,i⟩:=h
  let⟨a,e,rfl,g,f⟩:=Yb.mp r
  unfold Rep
  show⟨_,e,rfl,.of g,Qs R c i f⟩
 | .dict _,d,v,h,r=>by unfold PD at h;show h.elim
theorem Qs(R:RS w M):∀(xs:List PyData) {ds:LD} {vs:LV},PDs M xs ds->RDs w ds vs->Xg w.K w.H xs vs
 | [],ds,vs,h,r=>by unfold PDs at h;subst h;unfold RDs at r;unfold Xg;show r
 | x::xs,ds,vs,h,r=>by
  unfold PDs at h
  let⟨d,g,rfl,f,e⟩:=h
  unfold RDs at r
  let⟨v,a,rfl,c,b⟩:=r
  unfold Xg
  show⟨v,a,rfl,Zl8 R x f c,Qs R xs e b⟩
end
theorem Wu{d:D}{v:V}(f:Y0 d=true)(r:RD w d v):Xc v=true:=by
 cases d<;>simp[Y0] at f
 .cases Zw.mp r;rfl
 .cases Xb.mp r;rfl
 .cases Zf.mp r;rfl
 .cases Zq.mp r;rfl
def B7{d e:D}{v u:V}(f:Y0 d=true)(g:Y0 e=true)(r:RD w d v)(q:RD w e u):eqV v u=eqF d e:=by
 cases d<;>simp[Y0] at f
 all_goals (cases e<;>simp[Y0] at g)
 all_goals first
  |(first | cases Zw.mp r | cases Xb.mp r | cases Zf.mp r | cases Zq.mp r)
 all_goals first
  |(first | cases Zw.mp q | cases Xb.mp q | cases Zf.mp q | cases Zq.mp q)
 all_goals rfl
def Y78{x:D}{v:V}(f:Y0 x=true)(r:RD w x v):∀{ds:LD} {vs:LV},ds.all Y0=true->RDs w ds vs->inV v vs=inD x ds/\vs.all Xc=true
 | [],vs,_,h=>by unfold RDs at h;subst h;show⟨rfl,rfl⟩
 | d::ds,vs,g,h=>by
  unfold RDs at h
  let⟨i,j,rfl,a,e⟩:=h
  simp only[Hs,Bz9] at g
  let⟨c,b⟩:=Y78 f r g.2 e
  refine⟨?_,by simp only[Hs,Bz9];show⟨Wu g.1 a,b⟩⟩
  unfold inV inD at *
  rw[Ka,Ka,B7 g.1 f a r,c]
def RKV.val{a:Type}[DecidableEq a]{w:Vw}:∀{ds:List (a×D)} {vs:List (a×V)} (k:a),RKV w ds vs->(valD ds k=none/\valV vs k=none)\/∃d v,valD ds k=some d/\valV vs k=some v/\RD w d v
 | [],vs,k,h=>by unfold RKV at h;subst h;show .inl ⟨rfl,rfl⟩
 |(b,d)::ds,vs,k,h=>by
  unfold RKV at h
  let⟨v,r,rfl,f,c⟩:=h
  by_cases e:b=k
  .exact .inr ⟨d,v,by simp[valD,Hl,e],by simp[valV,Hl,e],f⟩
  .have:=RKV.val k c
   simpa[valD,valV,Hl,e] using this
def RKV.length{a:Type}{w:Vw}:∀{ds:List (a×D)} {vs:List (a×V)},RKV w ds vs->vs.length=ds.length
 | [],vs,h=>by unfold RKV at h;subst h;rfl
 |(c,d)::ds,vs,h=>by
  unfold RKV at h
  let⟨v,r,rfl,e,b⟩:=h
  simp[RKV.length b]
def RKV.any{a:Type}[DecidableEq a]{w:Vw}(k:a):∀{ds:List (a×D)} {vs:List (a×V)},RKV w ds vs->(vs.any fun b=>decide (b.1=k))=(ds.any fun b=>decide (b.1=k))
 | [],vs,h=>by unfold RKV at h;subst h;rfl
 |(e,d)::ds,vs,h=>by
  unfold RKV at h
  let⟨v,r,rfl,f,c⟩:=h
  simp[RKV.any k c]
def RKV.repl{b:Type}[DecidableEq b]{w:Vw}{k:b}{d:D}{v:V}(q:RD w d v):∀{ds:List (b×D)} {vs:List (b×V)},RKV w ds vs->RKV w (ds.map fun a=>if a.1=k then(a.1,d) else a) (vs.map fun a=>if a.1=k then(a.1,v) else a)
 | [],vs,h=>by unfold RKV at h;subst h;unfold RKV;rfl
 |(g,j)::ds,vs,h=>by
  unfold RKV at h
  let⟨f,r,rfl,i,c⟩:=h
  simp only[De]
  by_cases e:g=k
  .rw[nh e,nh e]
   unfold RKV
   show⟨v,_,rfl,q,RKV.repl q c⟩
  .rw[ng e,ng e]
   unfold RKV
   show⟨f,_,rfl,i,RKV.repl q c⟩
def RKV.snoc{a:Type}{w:Vw}{k:a}{d:D}{v:V}(q:RD w d v):∀{ds:List (a×D)} {vs:List (a×V)},RKV w ds vs->RKV w (ds++[(k,d)]) (vs++[(k,v)])
 | [],vs,h=>by unfold RKV at h;subst h;unfold RKV;show⟨v,[],rfl,q,by unfold RKV;rfl⟩
 |(c,g)::ds,vs,h=>by
  unfold RKV at h
  let⟨b,r,rfl,f,e⟩:=h
  change RKV w ((c,g)::(ds++[(k,d)])) _
  unfold RKV
  show⟨b,_,rfl,f,RKV.snoc q e⟩
def RKV.put{a:Type}[DecidableEq a]{w:Vw}{k:a}{d:D}{v:V}(q:RD w d v){ds:List (a×D)}{vs:List (a×V)}(h:RKV w ds vs):RKV w (putD ds k d) (putK vs k v):=by
 unfold putD putK
 rw[h.any k]
 split
 .exact h.repl q
 .exact h.snoc q
def Gk:∀{ks:List Key} {vs:LV},RDs w (ks.map kD) vs->vs=ks.map kV
 | [],vs,h=>by unfold RDs at h;show h
 | k::ks,vs,h=>by
  rw[De] at h
  unfold RDs at h
  let⟨v,r,rfl,a,b⟩:=h
  rw[Gk b]
  cases k with
  | inl i=>rw[Zf.mp a];rfl
  | inr x=>rw[Zq.mp a];rfl
def Jc{ks:List Key}{v:V}(r:RD w (.tup (ks.map kD)) v):∃b,v= .ref b/\w.H b=some (.tup (ks.map kV)):=by
 let⟨b,d,rfl,c,a⟩:=Yb.mp r
 show⟨b,rfl,by rw[<-Gk a];show c⟩
def Qq{d:D}{k:Key}{v:V}(h:keyD d=some k)(r:RD w d v):v=kV k:=by
 cases d<;>simp[keyD] at h
 .subst h;show Zf.mp r
 .subst h;show Zq.mp r
section
variable{X:Cx}{w0:Vw}
def cmOf:Cm->CmpOp
 | .lt=> .Lt | .gt=> .Gt | .ge=> .GtE | .eq=> .Eq | .ne=> .NotEq | .is=> .Is | .isin=> .In | .notin=> .NotIn
def Yt8(n:X.A.units+64<cLine):OpR X (compareOp .NotEq) (rEqD X.K true):=by
 intro a s m H x y v u Q I c b h
 let⟨l,k,j,i,g,f,o,q⟩:=h
 let⟨r,e⟩:=Rep.reads I l x v j c
 let⟨p,d⟩:=Rep.reads I k y u i b
 show PySem.SeqAt.compareNe_reads e d g f 'o' ⟨.bl _,H,I,rfl,q⟩
def Ei{w:Vw}{pins:PLO}{σ:L2.St}{s:Ub}{A:Around}{b:KQ9}{vb:List (Key×V)}{ub:List (Key×Ua)}(rb:RKV w b vb)(kb:KV vb ub)(fb:(b.all fun kv=>Y0 kv.2)=true):
  ∀{a:KQ9} {va:List (Key×V)} {ua:List (Key×Ua)},(a.all fun kv=>Y0 kv.2)=true->RKV w a va->KV va ua->PySem.W.KeqHits A s ub ua (a.all fun kv=>match valD b kv.1 with
   | some y=>eqF kv.2 y
   | none=>false)
 | [],va,ua,_,h,k=>by
  unfold RKV at h;subst h
  cases k
  show .nil
 |(k0,d)::a,va,ua,f,h,k=>by
  unfold RKV at h
  let⟨v,r,rfl,h1,h2⟩:=h
  simp only[Hs,Bz9] at f
  cases k with
  | @cons _ q _ ur hk kr=>
   let⟨k1,u⟩:=q
   let⟨e1,e2⟩:=hk
   dsimp only at e1 e2
   subst e1
   have ih:=Ei (A:=A) (s:=s) (pins:=pins) (σ:=σ) rb kb fb f.2 h2 kr
   rw[Hs]
   rcases rb.val k0 with⟨n1,n2⟩ | ⟨y,vy,n1,n2,n3⟩
   .have hz:=kb.val k0
    rw[n2] at hz
    have hz':valueAt ub k0=none:=RelO.none_of hz
    simp only[n1,Bool.false_and]
    show .miss hz'
   .have hz:=kb.val k0
    rw[n2] at hz
    let⟨uy,ey,ry⟩:=hz.some_of
    have fy:Y0 y=true:=by
     have hm:(k0,y)∈b:=by
      unfold valD at n1
      let⟨p,hp,e⟩:=Ch.mp n1
      have:=List.find?_some hp
      have hk:p.1=k0:=of_decide_eq_true this
      have:=List.mem_of_find?_eq_some hp
      rw[<-e,<-hk];show this
     show(Hm.mp fb) _ hm
    simp only[n1]
    refine .hit ey ?_ ih
    rw[<-B7 f.1 fy h1 n3]
    show Z33 e2 ry (Wu f.1 h1) (Wu fy n3)
def Wd:∀{ds:LD} {vs:LV},ds.all Y0=true->RDs w ds vs->vs.all Xc=true
 | [],vs,_,r=>by unfold RDs at r;subst r;rfl
 | d::ds,vs,f,r=>by
  unfold RDs at r
  let⟨v,c,rfl,b,a⟩:=r
  rw[Hs,Bz9] at f
  rw[Hs,Wu f.1 b,Wd f.2 a]
  rfl
def Z43(f:xs.all Y0=true)(g:ys.all Y0=true)(r:RDs w xs vs)(q:RDs w ys us):eqVs vs us=eqFs xs ys:=by
 unfold eqVs eqFs
 rw[r.length,q.length]
 congr 1
 have:∀j∈Ik (min xs.length ys.length),eqV (vs.getD j .non) (us.getD j .non)=eqF (xs.getD j .non) (ys.getD j .non):=by
  intro j a
  rw[Il] at a
  have c:j<xs.length:='o'
  have b:j<ys.length:='o'
  let⟨v,k,e⟩:=r.get (Ag c)
  let⟨u,i,d⟩:=q.get (Ag b)
  rw[Hm] at f g
  simp only[Hb,k,i,Ag c,Ag b,Option.getD_some]
  show B7 (f _ (Hz c)) (g _ (Hz b)) e d
 rw[Bool.eq_iff_iff,Hm,Hm]
 constructor
 .intro h j a;rw[<-this j a];show h j a
 .intro h j a;rw[this j a];show h j a
def Z71(hK:X.K=w0.K)(hu:X.A.units+64<cLine)(neg:Bool):OpR X (compareOp (if neg then .NotEq else .Eq)) (rB w0 fun M x y Q=>eqD M x y fun b=>Q (if neg then !b else b)):=by
 intro pins s σ H x y v u Q I rx ry h
 let⟨w,M,dx,dy,QD,rfl,e0,R,hx,hy,g,a⟩:=h
 have key:∀b:Bool,(scal x y=true/\decide (x=y)=b)->QD (if neg then !b else b)->⇑X (compareOp (if neg then .NotEq else .Eq) v u) (EP X pins σ Q) X.xe s:=by
  rintro b ⟨h1,h2⟩ hq
  cases neg with
  | true=>show Yz0 pins s σ w.H x y v u Q I rx ry ⟨h1,by rw[h2];show a _ hq⟩
  | false=>show Yw6 pins s σ w.H x y v u Q I rx ry ⟨h1,by rw[h2];show a _ hq⟩
 have hs:∀b,eqS dx dy=some b->scal x y=true/\decide (x=y)=b:=by
  intro b h
  cases dx with
  | int i=>
   cases Zf.mp hx
   cases dy with
   | int j=>cases Zf.mp hy;cases h;show⟨rfl,by simp⟩
   | str j=>cases Zq.mp hy;cases h;show⟨rfl,by simp⟩
   | non=>cases Zw.mp hy;cases h;show⟨rfl,by simp⟩
   | _=>cases h
  | str i=>
   cases Zq.mp hx
   cases dy with
   | str j=>cases Zq.mp hy;cases h;show⟨rfl,by simp⟩
   | int j=>cases Zf.mp hy;cases h;show⟨rfl,by simp⟩
   | non=>cases Zw.mp hy;cases h;show⟨rfl,by simp⟩
   | bl j=>cases Xb.mp hy;cases h;show⟨rfl,by simp⟩
   | _=>cases h
  | bl i=>
   cases Xb.mp hx
   cases dy with
   | bl j=>cases Xb.mp hy;cases h;show⟨rfl,by simp⟩
   | non=>cases Zw.mp hy;cases h;show⟨rfl,by simp⟩
   | str j=>cases Zq.mp hy;cases h;show⟨rfl,by simp⟩
   | _=>cases h
  | non=>
   cases Zw.mp hx
   cases dy with
   | non=>cases Zw.mp hy;cases h;show⟨rfl,by simp⟩
   | int j=>cases Zf.mp hy;cases h;show⟨rfl,by simp⟩
   | bl j=>cases Xb.mp hy;cases h;show⟨rfl,by simp⟩
   | str j=>cases Zq.mp hy;cases h;show⟨rfl,by simp⟩
   | _=>cases h
  | _=>cases h
 unfold eqD at g
 cases hb:eqS dx dy with
 | some b=>
  rw[hb] at g
  show key b (hs b hb) g
 | none=>
  rw[hb] at g
  rcases g with⟨da,db,p1,p2,p3,p4,p5,g⟩ | ⟨m,n,ka,kb,rfl,rfl,p1,p2,f1,f2,g⟩ | ⟨m,n,xs,rfl,rfl,p1,p2,g⟩ | ⟨xs,ys,ex,ey,f1,f2,g⟩
  .have q1:=Zl8 R da p1 hx
   have q2:=Zl8 R db p2 hy
   rw[e0,<-hK] at q1 q2
   cases neg with
   | true=>show Yt8 hu pins s σ w.H x y v u Q I rx ry ⟨da,db,q1,q2,p3,p4,p5,a _ g⟩
   | false=>show Yl4 hu pins s σ w.H x y v u Q I rx ry ⟨da,db,q1,q2,p3,p4,p5,a _ g⟩
  .let⟨_,rfl⟩:=Zk.mp hx
   let⟨_,rfl⟩:=Zk.mp hy
   let⟨_,va,ha,ra⟩:=R.dict p1
   let⟨_,vb,hb,rb⟩:=R.dict p2
   cases (show v=Value.ref (w.μ m) from rx)
   cases (show u=Value.ref (w.μ n) from ry)
   let⟨_,s1,ua,k1,d1⟩:=Cu I.hok ha
   let⟨_,s2,ub,k2,d2⟩:=Cu I.hok hb
   have hits:=Ei (A:=X.A.in1) (s:=s) (pins:=pins) (σ:=σ) rb k2 f2 f1 ra k1
   have hl:(ua.length==ub.length&&(ka.all fun kv=>match valD kb kv.1 with
    | some y=>eqF kv.2 y
    | none=>false))=eqKV ka kb:=by
    unfold eqKV
    rw[<-k1.length,<-k2.length,ra.length,rb.length]
    all_goals rfl
   cases neg with
   | true=>show PySem.W.keq_ne s1 s2 d1 d2 'o' (fun _=>hits) ⟨.bl _,w.H,I,rfl,by rw[hl];show a _ g⟩
   | false=>show PySem.W.keq_eq s1 s2 d1 d2 'o' (fun _=>hits) ⟨.bl _,w.H,I,rfl,by rw[hl];show a _ g⟩
  .let⟨_,rfl⟩:=Zk.mp hx
   let⟨_,rfl⟩:=Zk.mp hy
   let⟨_,va,ha,ra,_⟩:=R.listL p1
   let⟨_,vb,hb,rb,_⟩:=R.listL p2
   rw[e0,<-hK] at ha hb
   unfold RDs at rb
   subst rb
   cases (show v=Value.ref (w.μ m) from rx)
   cases (show u=Value.ref (w.μ n) from ry)
   have he:va.isEmpty=xs.isEmpty:=by have:=ra.length;cases va<;>cases xs<;>simp_all
   show Zx9 I hu neg ha hb (by rw[he];show a _ g)
  .have tp:∀{d:D} {zs:LD} {x:V},(d= .tup zs\/d= .gtup zs)->RD w d x->∃p vs,x= .ref p/\SqT X.K w.H p vs/\RDs w zs vs:=by
    rintro d zs x (rfl | rfl) r
    .let⟨p,vs,e,q1,q2⟩:=Yb.mp r
     show⟨p,vs,e,.of q1,q2⟩
    .let⟨p,vs,e,q1,q2⟩:=Vn.mp r
     rw[e0,<-hK] at q1
     show⟨p,vs,e,q1,q2⟩
   let⟨p,va,rfl,ha,ra⟩:=tp ex hx
   let⟨p2,vb,rfl,hb,rb⟩:=tp ey hy
   cases (show v=Value.ref p from rx)
   cases (show u=Value.ref p2 from ry)
   show Yf6 I hu neg ha hb (Wd f1 ra) (Wd f2 rb) (by rw[Z43 f1 f2 ra rb];show a _ g)
def Gp:∀{xs:List (LD)} {vs:LV},RDs w (xs.map .tup) vs->(xs.all fun b=>b.all Y0)=true->∃ts:List (LV),ts.length=vs.length/\(∀(j:Nat) u,vs[j]?=some u->∃a us,u= .ref a/\w.H a=some (.tup us)/\ts[j]?=some us/\us.all Xc=true)/\∀(ys:LD) (t:LV),ys.all Y0=true->RDs w ys t->(ts.any fun us=>eqVs us t)=xs.any fun b=>eqFs b ys
 | [],vs,h,_=>by
  rw[Iu] at h
  unfold RDs at h
  subst h
  show⟨[],rfl,fun j u e=>by simp at e,fun _ _ _ _=>rfl⟩
 | z::b,vs,h,f=>by
  rw[De] at h
  unfold RDs at h
  let⟨v,r,rfl,p,o⟩:=h
  rw[Hs,Bz9] at f
  let⟨a,us,rfl,n,g⟩:=Yb.mp p
  let⟨ts,m,l,k⟩:=Gp o f.2
  refine⟨us::ts,by rw[Ar,Ar,m],fun j u e=>?_,fun ys t i d=>by rw[Ka,Ka,k ys t i d,Z43 f.1 i g d]⟩
  cases j with
  | zero=>cases e;show⟨a,us,rfl,n,rfl,Wd f.1 g⟩
  | succ j=>
   let⟨A,c,y,x,s,q⟩:=l j u ↥e
   show⟨A,c,y,x,↥s,q⟩
def X06{s:Ub}{H:Hp}(I:Inv X pins o H s)(N:X.A.units+64<cLine)(f:Bool){p b:Uc}{ts:List (LV)}{t:LV}(D:SqL X.K H p xs)(F:xs.length=ts.length)(E:∀(j:Nat) u,xs[j]?=some u->∃a us,u= .ref a/\H a=some (.tup us)/\ts[j]?=some us/\us.all Xc=true)(G:H b=some (.tup t))(J:t.all Xc=true)
  (q:Q (.bl (if f then !(ts.any fun us=>eqVs us t) else ts.any fun us=>eqVs us t)) H):
  ⇑X (compareOp (if f then .NotIn else .In) (.ref b) (.ref p)) (EP X pins o Q) X.xe s:=by
 let⟨c,r,y,M⟩:=I.list D
 have h:∀(j:Nat) w,c[j]?=some w->∃a us,w= .ref a/\H a=some (.tup us)/\ts[j]?=some us/\us.all Xc=true:=by
  intro j w g
  have k:j<xs.length:=by rw[r.length];show(Ac.mp g).1
  let⟨a,us,n,d,m,l⟩:=E j xs[j] (Ag k)
  let⟨L,x,v⟩:=r.get (Ag k)
  rw[g] at x
  cases x
  rw[n] at v
  cases v
  show⟨a,us,rfl,d,m,l⟩
 have B:∀(a:Uc) (us:LV),H a=some (.tup us)->eqUT H t (.ref a)=eqVs us t:=by
  intro a us e
  show(match H a with | some (.tup C)=>eqVs C t | _=>false)=_
  rw[e]
 have z:∀w∈c.toArray,Dw X.A.in1 s w (.ref b) (eqUT H t w):=by
  intro w g
  let⟨j,k⟩:=List.getElem?_of_mem (show w∈c by simpa using g)
  let⟨a,us,rfl,d,m,l⟩:=h j w k
  rw[B a _ d]
  show Yq3 I (by change X.A.units+1+2<cLine;lia) d G l J
 have i:c.toArray.any (eqUT H t)=ts.any fun us=>eqVs us t:=by
  rw[show c.toArray.any (eqUT H t)=c.any (eqUT H t) by simp]
  have:c.map (eqUT H t)=ts.map fun us=>eqVs us t:=by
   refine List.ext_getElem? fun j=>?_
   rw[Ao,Ao]
   cases g:c[j]? with
   | none=>
    rw[Dh (by rw[<-F,r.length];show Dp.mp g)]
    rfl
   | some w=>
    let⟨a,us,rfl,d,m,l⟩:=h j w g
    rw[m]
    change some _=some _
    rw[B a _ d]
  have n:c.any (eqUT H t)=(c.map (eqUT H t)).any id:=by rw[List.any_map];rfl
  have d:(ts.any fun us=>eqVs us t)=(ts.map fun us=>eqVs us t).any id:=by rw[List.any_map];rfl
  rw[n,d,this]
 cases f with
 | true=>show SeqAt.notIn_listAt (eqUT H t) y.isList z ⟨.bl _,H,I,rfl,by rw[i];show q⟩
 | false=>show SeqAt.in_listAt (eqUT H t) y.isList z ⟨.bl _,H,I,rfl,by rw[i];show q⟩
def Z17(T:X.K=w0.K)(hu:X.A.units+64<cLine)(i:Bool):OpR X (compareOp (if i then .NotIn else .In)) (rB w0 fun M x y Q=>inQ M x y fun b=>Q (if i then !b else b)):=by
 intro j s L H x y v u Q I r C h
 let⟨w,M,W,dy,QD,rfl,U,R,F,P,g,a⟩:=h
 have B:∀{p:Uc} {c:LV} {z:LD},y= .ref p->(SqL X.K w.H p c\/SqT X.K w.H p c)->RDs w z c->Y0 W=true->z.all Y0=true->QD (if i then !inD W z else inD W z)->
   ⇑X (compareOp (if i then .NotIn else .In) v u) (EP X j L Q) X.xe s:=by
  intro p c z ey f l g2 g3 g4
  let⟨i1,Z⟩:=Y78 g2 F g3 l
  cases i with
  | true=>show Cb j s L w.H _ _ v u Q I r C ⟨p,c,ey,f,Wu g2 F,Z,by rw[i1];show a _ g4⟩
  | false=>show Zg3 j s L w.H _ _ v u Q I r C ⟨p,c,ey,f,Wu g2 F,Z,by rw[i1];show a _ g4⟩
 unfold inQ at g
 split at g
 .cases Zq.mp F;cases Zq.mp P
  cases i with
  | true=>show F0 j s L w.H _ _ v u Q I r C ⟨_,_,rfl,rfl,a _ g⟩
  | false=>show Zg4 j s L w.H _ _ v u Q I r C ⟨_,_,rfl,rfl,a _ g⟩
 .let⟨_,rfl⟩:=Zk.mp P
  rcases g with⟨z,g1,g2,g3,g4⟩ | ⟨o,k,g1,g2,g3⟩ | ⟨ys,z,rfl,g1,g2,g3,g4⟩ | ⟨o,E,rfl,g1,g3⟩
  .let⟨_,c,f,l,_⟩:=R.listL g1
   rw[U,<-T] at f
   show B rfl (.inl f) l g2 g3 g4
  .let⟨_,c,f,l⟩:=R.dict g1
   cases Qq g2 F
   cases (show u=Value.ref _ from C)
   have hv:valV c k=none/\valD o k=none\/∃d N,valD o k=some d/\valV c k=some N:=by
    rcases l.val k with⟨n,m⟩ | ⟨d,N,n,m,_⟩
    .exact .inl ⟨m,n⟩
    .exact .inr ⟨d,N,n,m⟩
   have G:(valV c k).isSome=(valD o k).isSome:=by
    rcases hv with⟨n,m⟩ | ⟨d,N,n,m⟩
    .rw[n,m];rfl
    .rw[n,m];rfl
   have q:X.A.units+1<cLine:='o'
   cases i with
   | true=>show Zk4 q I (DGet.k (k:=k) f) r fun S J=>⟨.bl (!(valV c k).isSome),w.H,J,rfl,by rw[G];show a _ g3⟩
   | false=>show d_in q I (DGet.k (k:=k) f) r fun S J=>⟨.bl (valV c k).isSome,w.H,J,rfl,by rw[G];show a _ g3⟩
  .let⟨_,c,f,l,_⟩:=R.listL g1
   rw[U,<-T] at f
   let⟨b,us,rfl,G,Y⟩:=Yb.mp F
   cases (show v=Value.ref b from r)
   cases (show u=Value.ref _ from C)
   let⟨ts,h1,h2,h3⟩:=Gp l g3
   refine X06 I hu i f h1.symm h2 G (Wd g2 Y) ?_
   rw[h3 _ _ g2 Y]
   show a _ g4
  .let⟨_,c,f,l⟩:=R.dictP g1
   let⟨b,rfl,G⟩:=Jc F
   cases (show u=Value.ref _ from C)
   have O:(valV c E).isSome=(valD o E).isSome:=by
    rcases l.val E with⟨n,m⟩ | ⟨d,N,n,m,_⟩
    .rw[n,m];rfl
    .rw[n,m];rfl
   have q:X.A.units+1<cLine:='o'
   cases i with
   | true=>show Zk4 q I (DGet.t (k:=E) f G) r fun S J=>⟨.bl (!(valV c E).isSome),w.H,J,rfl,by rw[O];show a _ g3⟩
   | false=>show d_in q I (DGet.t (k:=E) f G) r fun S J=>⟨.bl (valV c E).isSome,w.H,J,rfl,by rw[O];show a _ g3⟩
 .let⟨p,c,e,f,l⟩:=Yb.mp P
  show B e (.inr (.of f)) l g.1 g.2.1 g.2.2
 .let⟨p,c,e,f,l⟩:=Vn.mp P
  rw[U,<-T] at f
  show B e (.inr f) l g.1 g.2.1 g.2.2
 .exact g.elim
def Z70(t:X.K=w0.K)(r:X.A.units+64<cLine)(op:Cm):OpR X (compareOp (cmOf op)) (rB w0 fun M=>cmD M op):=by
 intro c s f H x y v u Q I m k h
 let⟨w,M,F,E,D,rfl,B,R,p,o,g,a⟩:=h
 cases op with
 | lt=>
  let⟨i,j,rfl,rfl,g2⟩:=Y4 g;clear g;have g:=g2
  cases Zf.mp p;cases Zf.mp o
  show Yz5 c s f w.H _ _ v u Q I m k ⟨_,_,rfl,rfl,a _ g⟩
 | gt=>
  let⟨i,j,rfl,rfl,g2⟩:=Y4 g;clear g;have g:=g2
  cases Zf.mp p;cases Zf.mp o
  show Yz7 c s f w.H _ _ v u Q I m k ⟨_,_,rfl,rfl,a _ g⟩
 | ge=>
  let⟨i,j,rfl,rfl,g2⟩:=Y4 g;clear g;have g:=g2
  cases Zf.mp p;cases Zf.mp o
  show Yy3 c s f w.H _ _ v u Q I m k ⟨_,_,rfl,rfl,a _ g⟩
 | eq=>
  show Z71 t r false c s f w.H x y v u Q I m k ⟨w,M,_,_,D,rfl,B,R,p,o,g,a⟩
 | ne=>
  show Z71 t r true c s f w.H x y v u Q I m k ⟨w,M,_,_,D,rfl,B,R,p,o,g,a⟩
 | is=>
  cases E with
  | non=>
   cases F with
   | non=>
    cases Zw.mp p;cases Zw.mp o
    show Q8 c s f w.H _ _ v u Q I m k ⟨rfl,a _ g⟩
   | bl b=>
    cases Xb.mp p;cases Zw.mp o
    show Q8 c s f w.H _ _ v u Q I m k ⟨rfl,a _ g⟩
   | int i=>
    cases Zf.mp p;cases Zw.mp o
    show Q8 c s f w.H _ _ v u Q I m k ⟨rfl,a _ g⟩
   | str z=>
    cases Zq.mp p;cases Zw.mp o
    show Q8 c s f w.H _ _ v u Q I m k ⟨rfl,a _ g⟩
   | tup l=>
    let⟨_,_,rfl,_⟩:=Yb.mp p;cases Zw.mp o
    show Q8 c s f w.H _ _ v u Q I m k ⟨rfl,a _ g⟩
   | ref n=>
    let⟨_,rfl⟩:=Zk.mp p;cases Zw.mp o
    show Q8 c s f w.H _ _ v u Q I m k ⟨rfl,a _ g⟩
   | exn e C d q=>
    let⟨rfl,_⟩:=Z40.mp p;cases Zw.mp o
    show Q8 c s f w.H _ _ v u Q I m k ⟨rfl,a _ g⟩
   | _=>show Bk g
  | _=>show Bk g
 | isin=>
  show Z17 t r false c s f w.H x y v u Q I m k ⟨w,M,_,_,D,rfl,B,R,p,o,g,a⟩
 | notin=>
  show Z17 t r true c s f w.H x y v u Q I m k ⟨w,M,_,_,D,rfl,B,R,p,o,g,a⟩
end
def RKV.isEmpty(h:RKV w ds vs):vs.isEmpty=ds.isEmpty:=by
 cases ds with
 | nil=>unfold RKV at h;subst h;rfl
 | cons p ds=>let⟨k,d⟩:=p;unfold RKV at h;let⟨v,r,rfl,_⟩:=h;rfl
def RDs.isEmpty(h:RDs w ds vs):vs.isEmpty=ds.isEmpty:=by
 cases ds with
 | nil=>unfold RDs at h;subst h;rfl
 | cons d ds=>unfold RDs at h;let⟨v,r,rfl,_⟩:=h;rfl
def Tu{K:Ab}{d:D}{x:V}(h:w.K=K)(R:RS w M)(r:RD w d x)(g:truD M d QD):∃k,TruV K x w.H k/\QD k:=by
 unfold truD at g
 split at g
 .cases Zw.mp r;show⟨_,rfl,g⟩
 .cases Xb.mp r;show⟨_,rfl,g⟩
 .cases Zf.mp r;show⟨_,rfl,g⟩
 .cases Zq.mp r;show⟨_,⟨g.1,rfl⟩,g.2⟩
 .let⟨a,c,rfl,b,e⟩:=Yb.mp r
  show⟨_,.inr (.inl ⟨c,.of b,rfl⟩),by rw[e.isEmpty];show g⟩
 .let⟨_,rfl⟩:=Zk.mp r
  rcases g with⟨f,g1,g2⟩ | ⟨f,g1,g2⟩
  .let⟨_,c,b,e,_⟩:=R.listL g1
   rw[h] at b
   show⟨_,.inl ⟨c,b,rfl⟩,by rw[e.isEmpty];show g2⟩
  .let⟨_,c,b,e⟩:=R.dict g1
   show⟨_,.inr (.inr ⟨c,b,rfl⟩),by rw[e.isEmpty];show g2⟩
 .exact g.elim
def B4{i:Int}{d:D}(r:RDs w xs vs)(h:atI xs i=some d):∃v,atI vs i=some v/\RD w d v:=by
 unfold atI at *
 rw[r.length]
 let⟨j,e,c⟩:=Ih.mp h
 let⟨v,b,a⟩:=r.get c
 show⟨v,by rw[e];show b,a⟩
def B1{w:Vw}{xs:LD}{vs:LV}{lo hi:Option Int}(r:RDs w xs vs):RDs w (cutD xs lo hi) (cutV vs lo hi):=by
 unfold cutD cutV
 rw[r.length]
 show(r.drop _).take _
section
variable{X:Cx}{w0:Vw}
def Zh6(t:X.A.units+1<cLine):IxR X (fun x y H Q=>∃a v,x= .ref a/\DGet H a y (some v)/\Q v H):=by
 intro d e c s l H x y v u Q I p o h z
 let⟨a,n,rfl,g,q⟩:=h
 cases p
 have m:=Cg I g
 have j:⇑X (getItem (.ref a) u) (EP X c l Q) X.xe s:=Zk5 t I g o fun C D B k=>⟨n,H,B,k,q⟩
 unfold subscriptTail
 refine Aa ?_
 rw[getitemInPython_of_ne m.not_modules]
 refine Aa (wpAny_specialOf m PySem.F.slot_dict_getitem.lookup ?_)
 have f:⇑X (subscripted e false (.ref a) u) (fun r b=>⇑X (letTemporaryGo d (.ref a) r >>=fun _=>pure r) (EP X c l Q) X.xe b) X.xe s:=by
  rw[z]
  show wpAny_operating (Dy j (fun r b i=>Aa (wpAny_letTemporaryGo (Ai i))) fun _ _ x=>x)
 first
  | show Ai (Aa f)
  | show Aa (Ai (Aa f))
  | show Aa f
def rX(w0:Vw):R2:=fun x y H Q=>∃w M b a c,w.H=H/\w.K=w0.K/\RS w M/\RD w b x/\RD w a y/\ixD M b a c/\∀d v,c d->RD w d v->Q v H
def Zy9(S:X.K=w0.K)(Y:X.A.units+64<cLine):IxR X (rX w0):=by
 intro e f j s q H x y v u Q I z r h C
 let⟨w,M,dx,Z,QD,rfl,T,R,J,B,g,a⟩:=h
 unfold ixD at g
 split at g
 .let⟨_,rfl⟩:=Zk.mp J
  rcases g with⟨W,i,d,rfl,g1,g2,g3⟩ | ⟨O,k,d,g1,g2,g3,g4⟩ | ⟨O,P,d,g1,rfl,g3,g4⟩
  .cases Zf.mp B
   let⟨_,m,l,n,_⟩:=R.listL g1
   rw[T,<-S] at l
   let⟨F,E,D⟩:=B4 n g2
   show Yk5 e f j s q w.H _ _ v u Q I z r ⟨_,m,i,F,rfl,rfl,l,E,a _ _ g3 D⟩ C
  .let⟨m,l,n⟩:=R.dictF g1
   cases Qq g2 B
   rcases n.val k with⟨o,G⟩ | ⟨V,L,o,G,N⟩
   .rw[o] at g3;cases g3
   .rw[o] at g3;cases g3
    refine Zh6 'o' e f j s q w.H _ _ v u Q I z r ⟨_,L,rfl,?_,a _ _ g4 N⟩ C
    have:DGet w.H (w.μ _) (kV k) (valV m k):= .inl ⟨m,k,l,rfl,rfl⟩
    rw[G] at this
    show this
  .let⟨_,m,l,n⟩:=R.dictP g1
   let⟨b,rfl,U⟩:=Jc B
   rcases n.val P with⟨o,G⟩ | ⟨V,L,o,G,N⟩
   .rw[o] at g3;cases g3
   .rw[o] at g3;cases g3
    refine Zh6 'o' e f j s q w.H _ _ v u Q I z r ⟨_,L,rfl,?_,a _ _ g4 N⟩ C
    have:=DGet.t (k:=P) l U
    rw[G] at this
    show this
 .cases Zf.mp B
  let⟨p,m,rfl,l,n⟩:=Yb.mp J
  let⟨d,g1,g2⟩:=g
  let⟨F,E,D⟩:=B4 n g1
  show Y42 e f j s q w.H _ _ v u Q I z r ⟨_,m,_,F,rfl,rfl,.of l,E,a _ _ g2 D⟩ C
 .cases Zf.mp B
  let⟨p,m,rfl,l,n⟩:=Vn.mp J
  rw[T,<-S] at l
  let⟨d,g1,g2⟩:=g
  let⟨F,E,D⟩:=B4 n g1
  show Y42 e f j s q w.H _ _ v u Q I z r ⟨_,m,_,F,rfl,rfl,l,E,a _ _ g2 D⟩ C
 .cases Zf.mp B;cases Zq.mp J
  let⟨g0,c,g1,g2⟩:=g
  show Yv7 e f j s q w.H _ _ v u Q I z r ⟨_,_,c,rfl,rfl,g0,g1,a _ _ g2 (Zq.mpr rfl)⟩ C
 .exact g.elim
def Ys4:SlR X (fun x lo hi H Q=>∃z,x= .str z/\z.length<=sizeLine/\Q (.str (Lz z lo hi)) H):=by
 intro b s f H x v m g lo hi n Q I o y p e h
 let⟨z,rfl,r,q⟩:=h
 let⟨t,rfl⟩:=o
 have a:∀l u:Option (Int×Tok),l.map (·.1)=lo->u.map (·.1)=hi->m=partValue l->g=partValue u->⇑X (getItem (.str z t) (.ref n)) (EP X b f Q) X.xe s:=by
  intro l u E D C B
  subst E D C B
  refine wpAny_getItem_str_slice (l:=l) (u:=u) (st:=none) y rfl ?_
  show post_val_or_str ⟨nj (Txt.slice_le z _ _) r,fun G k=>⟨.str (Lz z _ _),H,I.tok _,⟨_,rfl⟩,q⟩⟩
 refine⟨"str",_,PySem.F.slot_str_getitem.lookup,typeIs_str _ _ _,?_⟩
 cases p with
 | none=>
  cases e with
  | none=>show a none none rfl rfl rfl rfl
  | int j c=>show a none (some (j,c)) rfl rfl rfl rfl
 | int i d=>
  cases e with
  | none=>show a (some (i,d)) none rfl rfl rfl rfl
  | int j c=>show a (some (i,d)) (some (j,c)) rfl rfl rfl rfl
def rSl(w0:Vw):V->Option Int->Option Int->Hp->VK->Prop:=fun x c d H Q=>∃w M a b,w.H=H/\w.K=w0.K/\RS w M/\RD w a x/\slD a c d M b/\Aft w b Q
def Zw1(B:X.K=w0.K):SlR X (rSl w0):=by
 intro b s e H x v m k z A n Q I o u r q h
 let⟨w,M,E,F,rfl,C,R,t,g,a⟩:=h
 unfold slD at g
 split at g
 .cases Zq.mp t
  show Ys4 b s e w.H _ v m k _ _ n Q I o u r q ⟨_,rfl,g.1,a _ w _ M (Ext.refl w) R (Zq.mpr rfl) g.2⟩
 .let⟨_,rfl⟩:=Zk.mp t
  let⟨D,g1,g2⟩:=g
  let⟨_,l,d,c,_⟩:=R.listL g1
  rw[C,<-B] at d
  refine Yj1 b s e w.H _ v m k _ _ n Q I o u r q ⟨_,l,rfl,d,fun p y=>?_⟩
  let⟨j,i,f⟩:=Wo R y (B1 (lo:=z) (hi:=A) c)
  show a _ _ _ _ j i f g2
 .let⟨p,l,rfl,d,c⟩:=Yb.mp t
  refine Y44 b s e w.H _ v m k _ _ n Q I o u r q ⟨_,l,rfl,.of d,by rw[c.length];show g.1,fun p y=>?_⟩
  let⟨j,i,f⟩:=Vh R y (B1 (lo:=z) (hi:=A) c)
  show a _ _ _ _ j i f g.2
 .exact g.elim
def rC(w0:Vw)(g:LD->Z2->DK->Prop):LV->Hp->VK->Prop:=fun c H Q=>∃w M a b,w.H=H/\w.K=w0.K/\RS w M/\RDs w a c/\g a M b/\Aft w b Q
def bfOf:Bf->Str×Ua
 | .len=>("len",.builtin "len") | .isinst=>("isinstance",.builtin "isinstance") | .min2=>("min",.builtin "min") | .max2=>("max",.builtin "max")
 | .dict1=>("dict",.type "dict") | .int1=>("int",.type "int")
def rds1{d:D}(h:RDs w [d] xs):∃v,xs=[v]/\RD w d v:=by
 unfold RDs at h
 let⟨v,r,rfl,b,a⟩:=h
 unfold RDs at a
 subst a
 show⟨v,rfl,b⟩
def rds2{d e:D}(h:RDs w [d,e] xs):∃v u,xs=[v,u]/\RD w d v/\RD w e u:=by
 unfold RDs at h
 let⟨v,r,rfl,c,b⟩:=h
 let⟨u,rfl,a⟩:=rds1 b
 show⟨v,u,rfl,c,a⟩
def rds0(h:RDs w [] xs):xs=[]:=by unfold RDs at h;show h
def Zi1:∀{as:List Uc} {vs:LV},RDs w (as.map D.cls) vs->vs=as.map V.ref
 | [],vs,h=>rds0 h
 | a::r,vs,h=>by
  rw[De] at h
  unfold RDs at h
  let⟨v,b,rfl,d,c⟩:=h
  rw[N8.mp d,Zi1 c]
  rfl
def Yy4(K:Ab):LV->Hp->VK->Prop:=fun d H Q=>∃(e C a:Uc) (f:List (Str×V)) (p:Uc) (c:List Uc) (b:Bool),d=[.ref e,.ref p]/\H e=some (XO e (.ref C) (some a))/\H a=some (.xd f)/\ExcIs K C/\H p=some (.tup (c.map V.ref))/\PySem.W.kitAny K (.ref C) (c.map Value.ref)=some b/\Q (.bl b) H
def Vp:∀{as:List Uc} {us:LW},Vals (as.map V.ref) us->us=as.map Value.ref
 | [],us,h=>by cases h;rfl
 | a::r,us,h=>by
  cases h with
  | cons c b=>
   obtain rfl:_=Value.ref a:=c
   rw[Vp b]
   rfl
def Zn7:V2 X (.builtin "isinstance") (Yy4 X.K):=by
 intro a s w H x y Q I r h
 let⟨e,C,M,L,p,N,b,rfl,m,o,S,l,k,q⟩:=h
 let⟨u,v,rfl,f,d⟩:=Pl r
 obtain rfl:u=Value.ref e:=f
 obtain rfl:v=Value.ref p:=d
 let⟨B,D,F,J,_⟩:=Z41 I m o
 let⟨j,g,⟨⟨E,i,t,A⟩,g1,g2,n,g3⟩,G⟩:=I.tuple (.of l)
 cases Vp g
 dsimp only at g2 g3
 subst g2 g3
 show PySem.W.kia_tup (Z10 S) I.kIn J g1 k (fun z=>nomatch z) fun c=>⟨.bl b,H,I.tok c,rfl,q⟩
def Yq4{K:Ab}{d:D}{x:V}{t:String}(R:RS w M)(r:RD w d x)(h:tyD M d=some t):TyOf K w.H x (.type t):=by
 unfold tyD at h
 split at h
 .cases h;cases Zw.mp r;show .non
 .cases h;cases Xb.mp r;show .bl _
 .cases h;cases Zf.mp r;show .int _
 .cases h;cases Zq.mp r;show .str _
 .cases h;let⟨a,b,rfl,q,_⟩:=Yb.mp r;show .tup q
 .let⟨_,rfl⟩:=Zk.mp r
  split at h
  .rename_i e;cases h;let⟨b,q,_⟩:=R.cell _ _ e;show .lst q
  .cases h
  .rename_i e;cases h;let⟨b,q,_⟩:=R.cell _ _ e;show .dK q
  .cases h
  .cases h
  .cases h
 .cases h
def Zc6:V2 X (.type "dict") (fun xs H Q=>∃a kvs,xs=[V.ref a]/\H a=some (.dK kvs)/\∀p,H p=none->Q (.ref p) (upd H p (.dK kvs))):=by
 intro b s g H xs i Q I r h
 let⟨a,kvs,rfl,e,q⟩:=h
 let⟨u,rfl,c⟩:=J3 r
 cases c
 show Zv5 I (.inl e) fun p j d f=>⟨.ref p,_,f,rfl,q p d⟩
def Z20:∀{ps:KQ9} {vs:LV},RDs w (Vl ps) vs->∃qs,Ez w.K w.H vs qs/\RKV w ps qs
 | [],vs,h=>by
  cases vs with
  | nil=>show⟨[],trivial,by unfold RKV;rfl⟩
  | cons _ _=>have:=h.length;simp[Vl] at this
 | p::ps,vs,h=>by
  change RDs w (D.tup [kD p.1,p.2]::Vl ps) vs at h
  unfold RDs at h
  let⟨v,o,rfl,j,g⟩:=h
  let⟨t,q,rfl,l,k⟩:=Yb.mp j
  let⟨d,b,rfl,a,f⟩:=rds2 k
  let⟨qs,n,m⟩:=Z20 g
  have e:d=kV p.1:=by
   cases c:p.1 with
   | inl i=>rw[c] at a;show Zf.mp a
   | inr x=>rw[c] at a;show Zq.mp a
  subst e
  show⟨(p.1,b)::qs,⟨⟨t,rfl,.of l⟩,n⟩,by unfold RKV;show⟨b,qs,rfl,f,m⟩⟩
def Z05:∀{ps:KQ9} {qs:List (Key×V)} {ds:KQ9} {vs:List (Key×V)},RKV w ps qs->RKV w ds vs->RKV w (ps.foldl (fun m p=>putD m p.1 p.2) ds) (qs.foldl (fun m p=>putK m p.1 p.2) vs)
 | [],qs,ds,vs,h,g=>by unfold RKV at h;subst h;show g
 | p::ps,qs,ds,vs,h,g=>by
  unfold RKV at h
  let⟨v,r,rfl,b,a⟩:=h
  rw[Kq,Kq]
  show Z05 (ps:=ps) (qs:=r) a (RKV.put (k:=p.1) b g)
def Sc:Bf->Bool
 | .min2 | .max2 | .dict1=>false
 | _=>true
def Zh5:V2 X (.type "int") (fun xs H Q=>∃b,xs=[.bl b]/\Q (.int (if b then 1 else 0)) H):=by
 intro a s c H xs d Q I r h
 let⟨b,rfl,q⟩:=h
 let⟨u,rfl,e⟩:=J3 r
 cases e
 show call_int_bool ⟨.int _,H,I.tok _,⟨_,rfl⟩,q⟩
def Zw8(B:X.K=w0.K)(b:Bf)(O:X.calm=true\/Sc b=true):V2 X (bfOf b).2 (rC w0 (bfD w0.K b)):=by
 intro c s k H E m Q I r h
 let⟨w,M,ds,QD,rfl,T,R,A,g,a⟩:=h
 cases b with
 | len=>
  let⟨x,rfl,g2⟩:=Sf g;clear g;have g:=g2
  cases x with
  | ref n=>
   let⟨v,rfl,d⟩:=rds1 A
   let⟨_,rfl⟩:=Zk.mp d
   rcases g with⟨E,g1,g2⟩ | ⟨E,g1,g2⟩
   .let⟨_,o,e,f,_⟩:=R.listL g1
    rw[T,<-B] at e
    show Sn c s k w.H _ m Q I r ⟨_,o,rfl,.inl e,a _ w _ M (Ext.refl w) R (Zf.mpr (by rw[f.length])) g2⟩
   .let⟨_,o,e,f⟩:=R.dict g1
    show Zo3 c s k w.H _ m Q I r ⟨_,o,rfl,e,a _ w _ M (Ext.refl w) R (Zf.mpr (by rw[f.length])) g2⟩
  | tup l=>
   let⟨v,rfl,d⟩:=rds1 A
   let⟨p,o,rfl,e,f⟩:=Yb.mp d
   show Sn c s k w.H _ m Q I r ⟨_,o,rfl,.inr (.of e),a _ w _ M (Ext.refl w) R (Zf.mpr (by rw[f.length])) g⟩
  | str z=>
   let⟨v,rfl,d⟩:=rds1 A
   cases Zq.mp d
   show Er c s k w.H _ m Q I r ⟨_,rfl,g.1,a _ w _ M (Ext.refl w) R (Zf.mpr rfl) g.2⟩
  | _=>show Bk g
 | isinst=>
  let⟨x,y,rfl,g2⟩:=Si g;clear g;have g:=g2
  let⟨v,u,rfl,d,q⟩:=rds2 A
  unfold isD at g
  split at g
  .let⟨b,g1,g2,g3⟩:=g
   let⟨rfl,e,C,f,S⟩:=Z40.mp d
   cases N8.mp q
   rw[<-B] at g1 g2
   show Z62 c s k w.H _ m Q I r ⟨_,_,_,_,_,_,b,rfl,e,f,g1,fun u L=>L,g2,a _ w _ M (Ext.refl w) R (Xb.mpr rfl) g3⟩
  .let⟨b,g1,g2,g3⟩:=g
   let⟨rfl,e,C,f,S⟩:=Z40.mp d
   cases Yd4.mp q
   rw[<-B] at g1 g2
   show Z62 c s k w.H _ m Q I r ⟨_,_,_,_,_,_,b,rfl,e,f,g1,fun u L=>L,g2,a _ w _ M (Ext.refl w) R (Xb.mpr rfl) g3⟩
  .let⟨as,b,rfl,g1,g2,g3⟩:=g
   let⟨rfl,e,C,f,S⟩:=Z40.mp d
   let⟨p,o,rfl,Y,W⟩:=Yb.mp q
   cases Zi1 W
   rw[<-B] at g1 g2
   show Zn7 c s k w.H _ m Q I r ⟨_,_,_,_,_,_,b,rfl,e,f,g1,Y,g2,a _ w _ M (Ext.refl w) R (Xb.mpr rfl) g3⟩
  .let⟨t,b,g1,g2,g3⟩:=g
   cases Yd4.mp q
   rw[<-B] at g2
   show Zu8 c s k w.H _ m Q I r ⟨_,_,_,b,rfl,Yq4 R d g1,g2,a _ w _ M (Ext.refl w) R (Xb.mpr rfl) g3⟩
  .exact g.elim
 | min2=>
  let⟨x,y,rfl,g2⟩:=Si g;clear g;have g:=g2
  let⟨i,j,rfl,rfl,g2⟩:=Y4 g;clear g;have g:=g2
  let⟨v,u,rfl,d,q⟩:=rds2 A
  cases Zf.mp d;cases Zf.mp q
  show Zk8 (O.resolve_right (by simp[Sc])) c s k w.H _ m Q I r ⟨_,_,rfl,a _ w _ M (Ext.refl w) R (Zf.mpr rfl) g⟩
 | max2=>
  let⟨x,y,rfl,g2⟩:=Si g;clear g;have g:=g2
  let⟨i,j,rfl,rfl,g2⟩:=Y4 g;clear g;have g:=g2
  let⟨v,u,rfl,d,q⟩:=rds2 A
  cases Zf.mp d;cases Zf.mp q
  show Ze9 (O.resolve_right (by simp[Sc])) c s k w.H _ m Q I r ⟨_,_,rfl,a _ w _ M (Ext.refl w) R (Zf.mpr rfl) g⟩
 | dict1=>
  let⟨x,rfl,g2⟩:=Sf g;clear g;have g:=g2
  let⟨n,rfl,g2⟩:=Yw g;clear g;have g:=g2
  let⟨v,rfl,d⟩:=rds1 A
  let⟨_,rfl⟩:=Zk.mp d
  rcases g with⟨E,g1,g2⟩ | ⟨Z,g1,g2,g3⟩
  .let⟨_,o,e,f⟩:=R.dict g1
   refine Zc6 c s k w.H _ m Q I r ⟨_,o,rfl,e,fun l N=>?_⟩
   let⟨J,G,F⟩:=Rp R N f
   show a _ _ _ _ J G F g2
  .let⟨_,o,e,f,_⟩:=R.listL g1
   let⟨V,P,U⟩:=Z20 f
   have D:=f.length
   unfold Vl at D
   rw[Af] at D
   rw[T,<-B] at e P
   refine Z97 (O.resolve_right (by simp[Sc])) c s k w.H _ m Q I r ⟨_,o,V,rfl,e,P,'o',fun l N=>?_⟩
   let⟨J,G,F⟩:=Rp R N (Z05 U (show RKV w [] [] by unfold RKV;rfl))
   show a _ _ _ _ J G F g3
 | int1=>
  let⟨x,rfl,g2⟩:=Sf g;clear g;have g:=g2
  let⟨i,rfl,g2⟩:=Zz9 g;clear g;have g:=g2
  let⟨v,rfl,d⟩:=rds1 A
  cases Xb.mp d
  show Zh5 c s k w.H _ m Q I r ⟨_,rfl,a _ w _ M (Ext.refl w) R (Zf.mpr rfl) g⟩
end
def mtT:Mt->String
 | .clearD=>"dict"
 | .append | .pop0 | .clear | .extend=>"list"
 | .get2 | .setd=>"dict"
def mtN:Mt->Str
 | .clearD=>"clear"
 | .append=>"append" | .pop0=>"pop" | .clear=>"clear" | .extend=>"extend" | .get2=>"get" | .setd=>"setdefault"
def mtI:Mt->String
 | .clearD=>"dict.clear"
 | .append=>"list.append" | .pop0=>"list.pop" | .clear=>"list.clear" | .extend=>"list.extend" | .get2=>"dict.get" | .setd=>"dict.setdefault"
def Yl0:∀m:Mt,PlainAttrs (mtT m)
 | .clearD=>PySem.F.plainAttrs_dict
 | .append | .pop0 | .clear | .extend=>PySem.F.plainAttrs_list
 | .get2 | .setd=>PySem.F.plainAttrs_dict
def Zi8:∀m:Mt,Slot (mtT m) (mtN m) (mtI m)
 | .clearD=>PySem.F.slot_dict_clear
 | .append=>PySem.F.slot_list_append | .pop0=>PySem.F.slot_list_pop | .clear=>PySem.F.slot_list_clear | .extend=>PySem.F.slot_list_extend
 | .get2=>PySem.F.slot_dict_get
 | .setd=>PySem.F.slot_dict_setdefault
def Yl5:∀m:Mt,typeOf (.builtin (mtI m))=pure (.type "method_descriptor")
 | .clearD=>PySem.F.type_dict_clear
 | .append=>PySem.F.type_list_append | .pop0=>PySem.F.type_list_pop | .clear=>PySem.F.type_list_clear | .extend=>PySem.F.type_list_extend
 | .get2=>PySem.F.type_dict_get
 | .setd=>PySem.F.type_dict_setdefault
def rM(w0:Vw)(m:Mt):V->LV->Hp->VK->Prop:=fun x d H Q=>∃w M a b c,w.H=H/\w.K=w0.K/\RS w M/\RD w a x/\RDs w b d/\mtD m a b M c/\Aft w c Q
def Y80{m:Mt}{d:D}{x:V}(R:RS w M)(r:RD w d x)(h:mtK m d M):tyV w.K (mtT m) x w.H:=by
 have L:∀{n:Nat},RD w (.ref n) x->(Z7 M n).isSome=true->tyV w.K "list" x w.H:=by
  intro n r h
  let⟨_,rfl⟩:=Zk.mp r
  let⟨c,e⟩:=Hw.mp h
  let⟨_,a,b,_⟩:=R.listL e
  show .inl ⟨rfl,a,b⟩
 have K:∀{n:Nat},RD w (.ref n) x->(Z9 M n).isSome=true->tyV w.K "dict" x w.H:=by
  intro n r h
  let⟨_,rfl⟩:=Zk.mp r
  let⟨c,e⟩:=Hw.mp h
  let⟨_,a,b,_⟩:=R.dict e
  show .inr (.inr (.inl ⟨rfl,.inl ⟨a,b⟩⟩))
 have P:∀{n:Nat},RD w (.ref n) x->(Zx M n).isSome=true->tyV w.K "dict" x w.H:=by
  intro n r h
  let⟨_,rfl⟩:=Zk.mp r
  let⟨c,e⟩:=Hw.mp h
  let⟨_,a,b,_⟩:=R.dictP e
  show .inr (.inr (.inl ⟨rfl,.inr ⟨a,b⟩⟩))
 let⟨n,rfl,h⟩:=Yw h
 cases m with
 | clearD=>show K r h
 | get2=>show K r h
 | setd=>show P r h
 | _=>show L r h
def RDs.dropLast(r:RDs w xs vs):RDs w xs.dropLast vs.dropLast:=by
 rw[List.dropLast_eq_take,List.dropLast_eq_take,r.length]
 show r.take _
section
variable{X:Cx}{w0:Vw}
def Y12(hK:X.K=w0.K)(hu:X.A.units+64<cLine)(m:Mt):MtR X (mtI m) (rM w0 m):=by
 intro f s N H x xs v O Q I C r h
 let⟨w,M,dx,U,QD,rfl,e0,R,E,F,g,a⟩:=h
 let⟨n,rfl,g2⟩:=Yw g;clear g;have g:=g2
 cases m with
 | append=>
  let⟨x,rfl,g2⟩:=Sf g;clear g;have g:=g2
  let⟨_,rfl⟩:=Zk.mp E
  let⟨y,rfl,B⟩:=rds1 F
  let⟨U,g1,g2,g3⟩:=g
  let⟨j,o,c,e⟩:=R.list g1
  let⟨l,p⟩:=X3 R j c (e.append (RDs.cons B (RDs.nil w)))
  show Pb f s N w.H _ _ v O Q I C r ⟨_,o,y,rfl,rfl,c,by rw[e.length];show g2,a _ _ _ _ l p (Zw.mpr rfl) g3⟩
 | setd=>
  let⟨x,y,rfl,g2⟩:=Si g;clear g;have g:=g2
  let⟨_,rfl⟩:=Zk.mp E
  let⟨y,z,rfl,B,P⟩:=rds2 F
  let⟨L,k,g1,rfl,g0,g2,g3⟩:=g
  let⟨j,o,c,e⟩:=R.dictP g1
  let⟨u,u2,rfl,Y,q⟩:=Pl r
  cases (show v=Value.ref _ from C)
  let⟨b,rfl,hb⟩:=Jc B
  cases (show u=Value.ref _ from Y)
  refine Zt4 'o' I c hb (by rw[e.length];show g0) q (fun v w' W T G D=>⟨_,w.H,G,D,?_⟩) fun W T G=>⟨_,_,G,q,?_⟩
  .rcases e.val k with⟨t,i⟩ | ⟨d',v',t,i,S⟩
   .rw[T] at i;cases i
   .rw[T] at i;cases i
    show a _ w _ M (Ext.refl w) R S (g2 _ t)
  .rcases e.val k with⟨t,i⟩ | ⟨d',v',t,i,S⟩
   .let⟨t1,t2⟩:=Q5 R j c (e.put (k:=k) P)
    show a _ _ _ _ t1 t2 (P.ext t1) (g3 t)
   .rw[T] at i;cases i
 | clearD=>
  let⟨rfl,g2⟩:=Jh g;clear g;have g:=g2
  let⟨_,rfl⟩:=Zk.mp E
  cases rds0 F
  let⟨L,g1,g3⟩:=g
  let⟨j,o,c,e⟩:=R.dict g1
  let⟨l,p⟩:=Sm (vs:=[]) (xs:=[]) R j c (by unfold RKV;rfl)
  cases (show v=Value.ref _ from C)
  cases r
  refine Yf0 I c fun W G=>⟨.non,_,G,rfl,?_⟩
  show a _ _ _ _ l p (Zw.mpr rfl) g3
 | get2=>
  let⟨x,y,rfl,g2⟩:=Si g;clear g;have g:=g2
  let⟨_,rfl⟩:=Zk.mp E
  let⟨y,z,rfl,B,P⟩:=rds2 F
  let⟨L,k,g1,g2,g3⟩:=g
  let⟨j,o,c,e⟩:=R.dict g1
  let⟨u,u2,rfl,Y,q⟩:=Pl r
  cases (show v=Value.ref _ from C)
  cases Qq g2 B
  refine Yp1 'o' I (DGet.k (k:=k) c) Y q fun w' W G D=>⟨_,w.H,G,D,?_⟩
  rcases e.val k with⟨t,i⟩ | ⟨d',v',t,i,S⟩
  .rw[t] at g3
   rw[i]
   show a _ w _ M (Ext.refl w) R P g3
  .rw[t] at g3
   rw[i]
   show a _ w _ M (Ext.refl w) R S g3
 | pop0=>
  let⟨rfl,g2⟩:=Jh g;clear g;have g:=g2
  let⟨_,rfl⟩:=Zk.mp E
  cases rds0 F
  let⟨U,d,g1,g2,g3⟩:=g
  let⟨j,o,c,e⟩:=R.list g1
  let⟨y,z1,z2⟩:=e.get g2
  let⟨l,p⟩:=X3 R j c e.dropLast
  show Yo1 f s N w.H _ _ v O Q I C r ⟨_,o,y,rfl,rfl,c,by rw[e.length];show z1,a _ _ _ _ l p (z2.ext l) g3⟩
 | clear=>
  let⟨rfl,g2⟩:=Jh g;clear g;have g:=g2
  let⟨_,rfl⟩:=Zk.mp E
  cases rds0 F
  let⟨U,g1,g3⟩:=g
  let⟨j,o,c,e⟩:=R.list g1
  let⟨l,p⟩:=X3 R j c (RDs.nil w)
  show Zw7 f s N w.H _ _ v O Q I C r ⟨_,o,rfl,rfl,c,a _ _ _ _ l p (Zw.mpr rfl) g3⟩
 | extend=>
  let⟨x,rfl,g2⟩:=Sf g;clear g;have g:=g2
  let⟨m2,rfl,g2⟩:=Yw g;clear g;have g:=g2
  let⟨_,rfl⟩:=Zk.mp E
  let⟨y,rfl,B⟩:=rds1 F
  let⟨_,rfl⟩:=Zk.mp B
  let⟨U,es,g1,g2,g4,g3⟩:=g
  let⟨j,o,c,e⟩:=R.list g1
  let⟨z0,V,Z,J⟩:=R.list g2
  let⟨l,p⟩:=X3 R j c (e.append J)
  show Zh3 f s N w.H _ _ v O Q I C r ⟨_,_,o,V,rfl,rfl,c,Z,by rw[e.length,J.length];show g4,a _ _ _ _ l p (Zw.mpr rfl) g3⟩
end
def gF(w0:Vw)(g:LQ):TG:=fun v f H Q=>∃w b M d e,StOk w0 w b M f H/\RD w d v/\tgD g d b e/\∀c a,REnv w a c->e a->Q c H
def gAll:LQ->TGs
 | []=>gNil
 | i::a=>Yk9 (Zs2 i) (gAll a)
def G3{w:Vw}{H:Hp}{Q:L2.St->Hp->Prop}{QD:DEnv->Prop}(k:∀g b,REnv w b g->QD b->Q g H):∀(f:LQ) {ds:LD} {vs:LV} {c:L2.St} {a:DEnv},RDs w ds vs->ds.length=f.length->REnv w a c->
  QD ((f.zip ds).foldl (fun c p=>c.set p.1 (some p.2)) a)->gAll f vs c H Q
 | [],ds,vs,c,a,r,h,e,q=>by
  cases Ig.mp h
  cases rds0 r
  show⟨rfl,k _ _ e q⟩
 | i::f,ds,vs,c,a,r,h,e,q=>by
  cases ds with
  | nil=>simp at h
  | cons d ds=>
   unfold RDs at r
   let⟨v,j,rfl,m,l⟩:=r
   refine⟨v,j,rfl,?_⟩
   change gAll f j (c.set i (some v)) H Q
   show G3 k f l ↥h (e.set i m) q
section
variable{X:Cx}{w0:Vw}
def PG.imp{t t':TG}(h:PG X e t)(k:∀v a H Q,t' v a H Q->t v a H Q):PG X e t':=fun b s a H v u Q I r q=>h b s a H v u Q I r (k v a H Q q)
def Yp4{i:Nat}(h:PG X e (Zs2 i)):PG X e (gF w0 [i]):=PG.imp h fun v b H Q zz66=>by let⟨w,a,M,d,c,S,r,g,k⟩:=zz66;show k _ _ (S.env.set i r) g
def Zg5{d:LQ}(h:PG X e (gLst X.K d.length (gAll d))):PG X e (fun v f H Q=>∃w b M n ds,∃QD:DEnv->Prop,StOk w0 w b M f H/\X.K=w.K/\RD w (.ref n) v/\Z7 M n=some ds/\ds.length=d.length/\QD ((d.zip ds).foldl (fun f p=>f.set p.1 (some p.2)) b)/\∀c a,REnv w a c->QD a->Q c H):=PG.imp h fun v f H Q zy5=>by
 let⟨w,b,M,n,ds,QD,S,l,r,m,g1,g2,k⟩:=zy5
 let⟨_,rfl⟩:=Zk.mp r
 let⟨_,j,i,g,_⟩:=S.rs.listL m
 rw[S.heap,<-l] at i
 show⟨_,j,rfl,.inr i,by rw[g.length];show g1,G3 k d g g1 S.env g2⟩
def Ye4{b:LQ}(l:2<=b.length)(h:PG X e (gTup X.K b.length (gAll b))):PG X e (gF w0 b):=PG.imp h fun v m H Q zy6=>by
 let⟨w,i,M,d,n,S,r,g,k⟩:=zy6
 unfold tgD at g
 split at g
 .simp at l
 .let⟨a,j,rfl,f,c⟩:=Yb.mp r
  let⟨g1,g2⟩:=g
  rw[S.heap] at f
  show⟨a,j,rfl,.of f,by rw[c.length];show g1,G3 k b c g1 S.env g2⟩
 .exact g.elim
end
structure Ck where
 N:LS
 sc:Scope
 FN:LS
 GN:LS
 BN:LS
 loops:Bool
 calm:Bool
 tries:Bool
 raises:LQ
 cells:Bool
 own:LS
def B2(scope:Scope):LS:=(scope.names.filter fun y=>y.2== .cell).map (·.1)
def Ck.vis(k:Ck)(x:Str):Bool:=(k.sc.names.lookup x==some .local || k.sc.names.lookup x==some .cell || k.sc.names.lookup x==some .free)&&!(x==("__debug__":Str))&&!(x==("__classdict__":Str))
def Ck.glob(k:Ck)(x:Str):Bool:=k.sc.names.lookup x==some .globalImplicit&&!(x==("__debug__":Str))&&!(x==("__name__":Str))
def Ck.loc(k:Ck)(x:Str):Bool:=k.sc.names.lookup x==some .local
def Ck.locC(k:Ck)(x:Str):Bool:=k.loc x || ((k.cells || k.own.contains x)&&k.sc.names.lookup x==some .cell)
def Zf5:Expr->Bool
 | .Call (.Name x _) [] [] _=>x !=("super":Str)
 | _=>true
def Cy:Expr->Bool
 | .Slice ..=>false
 | _=>true
def Zb2:Expr->Bool
 | .Set ..=>false
 | _=>true
def noStar:Expr->Bool
 | .Starred ..=>false
 | _=>true
def isIn:Cm->Bool
 | .isin | .notin=>true
 | _=>false
def Zk2(k:Ck):LQ->List Expr->Bool
 | [],[]=>true
 | i::a,.Name x _::b=>k.N[i]?==some x&&k.locC x&&Zk2 k a b
 | _,_=>false
def O1(k:Ck)(a:LQ):Expr->Bool
 | .Name x _=>match a with
  | [i]=>k.N[i]?==some x&&k.locC x
  | _=>false
 | .Tuple b _ _=>k.calm&&decide (2<=a.length)&&Zk2 k a b
 | _=>false
def chkP:List (Str×Str)->List (Option Expr)->List Expr->Bool
 | [],[],[]=>true
 | p::d,some (.Constant (.str a) _ _)::e,.Constant (.str b) _ _::c=>p.1==a&&p.2==b&&chkP d e c
 | _,_,_=>false
def itTg:It->Expr->Bool
 | .enm _,.Tuple ..=>true
 | .enm _,_=>false
 | .zip _,.Tuple ..=>true
 | .zip _,_=>false
 | _,_=>true
def Zv{c:Prop}[Decidable c]{F:c->Bool}(h:(if q:c then F q else false)=true):∃q:c,F q=true:=by
 by_cases q:c
 .rw[dif_pos q] at h;show⟨q,h⟩
 .rw[dif_neg q] at h;left
def X7(a:Expr)(F:Str->Bool):Bool:=if q:a.ctorIdx=23 then Expr.Name.elim (motive_1:=fun _=>Bool) a q (fun x _=>F x) else false
def Zn{a:Expr}{F:Str->Bool}(h:X7 a F=true):∃x p,a= .Name x p/\F x=true:=by
 let⟨q,h⟩:=Zv h
 show Expr.Name.elim (motive_1:=fun a=>∀q:a.ctorIdx=23,Expr.Name.elim (motive_1:=fun _=>Bool) a q (fun x _=>F x)=true->∃x p,a= .Name x p/\F x=true) a q (fun x p _ h=>⟨x,p,rfl,h⟩) q h
def Pf(a:Expr)(F:Const->Bool):Bool:=if q:a.ctorIdx=19 then Expr.Constant.elim (motive_1:=fun _=>Bool) a q (fun v _ _=>F v) else false
def Xs{a:Expr}{F:Const->Bool}(h:Pf a F=true):∃v j p,a= .Constant v j p/\F v=true:=by
 let⟨q,h⟩:=Zv h
 show Expr.Constant.elim (motive_1:=fun a=>∀q:a.ctorIdx=19,Expr.Constant.elim (motive_1:=fun _=>Bool) a q (fun v _ _=>F v)=true->∃v j p,a= .Constant v j p/\F v=true) a q (fun v j p _ h=>⟨v,j,p,rfl,h⟩) q h
def Yo0(a:Expr)(F:Expr->Operator->Expr->Bool):Bool:=if q:a.ctorIdx=2 then Expr.BinOp.elim (motive_1:=fun _=>Bool) a q (fun l o r _=>F l o r) else false
def Zq2{a:Expr}{F:Expr->Operator->Expr->Bool}(h:Yo0 a F=true):∃l o r p,a= .BinOp l o r p/\F l o r=true:=by
 let⟨q,h⟩:=Zv h
 show Expr.BinOp.elim (motive_1:=fun a=>∀q:a.ctorIdx=2,Expr.BinOp.elim (motive_1:=fun _=>Bool) a q (fun l o r _=>F l o r)=true->∃l o r p,a= .BinOp l o r p/\F l o r=true) a q (fun l o r p _ h=>⟨l,o,r,p,rfl,h⟩) q h
def onUn(a:Expr)(F:UnaryOp->Expr->Bool):Bool:=if q:a.ctorIdx=3 then Expr.UnaryOp.elim (motive_1:=fun _=>Bool) a q (fun o l _=>F o l) else false
def Z56{a:Expr}{F:UnaryOp->Expr->Bool}(h:onUn a F=true):∃o l p,a= .UnaryOp o l p/\F o l=true:=by
 let⟨q,h⟩:=Zv h
 show Expr.UnaryOp.elim (motive_1:=fun a=>∀q:a.ctorIdx=3,Expr.UnaryOp.elim (motive_1:=fun _=>Bool) a q (fun o l _=>F o l)=true->∃o l p,a= .UnaryOp o l p/\F o l=true) a q (fun o l p _ h=>⟨o,l,p,rfl,h⟩) q h
def Ys2(a:Expr)(F:Expr->(List CmpOp)->(List Expr)->Bool):Bool:=if q:a.ctorIdx=15 then Expr.Compare.elim (motive_1:=fun _=>Bool) a q (fun l c b _=>F l c b) else false
def Zr4{c:Expr}{F:Expr->(List CmpOp)->(List Expr)->Bool}(h:Ys2 c F=true):∃l b a p,c= .Compare l b a p/\F l b a=true:=by
 let⟨q,h⟩:=Zv h
 show Expr.Compare.elim (motive_1:=fun c=>∀q:c.ctorIdx=15,Expr.Compare.elim (motive_1:=fun _=>Bool) c q (fun l b a _=>F l b a)=true->∃l b a p,c= .Compare l b a p/\F l b a=true) c q (fun l b a p _ h=>⟨l,b,a,p,rfl,h⟩) q h
def Y56(a:Expr)(F:BoolOp->(List Expr)->Bool):Bool:=if q:a.ctorIdx=0 then Expr.BoolOp.elim (motive_1:=fun _=>Bool) a q (fun o b _=>F o b) else false
def Zc0{a:Expr}{F:BoolOp->(List Expr)->Bool}(h:Y56 a F=true):∃o ls p,a= .BoolOp o ls p/\F o ls=true:=by
 let⟨q,h⟩:=Zv h
 show Expr.BoolOp.elim (motive_1:=fun a=>∀q:a.ctorIdx=0,Expr.BoolOp.elim (motive_1:=fun _=>Bool) a q (fun o ls _=>F o ls)=true->∃o ls p,a= .BoolOp o ls p/\F o ls=true) a q (fun o ls p _ h=>⟨o,ls,p,rfl,h⟩) q h
def onIf(a:Expr)(F:Expr->Expr->Expr->Bool):Bool:=if q:a.ctorIdx=5 then Expr.IfExp.elim (motive_1:=fun _=>Bool) a q (fun x l r _=>F x l r) else false
def Zz6{a:Expr}{F:Expr->Expr->Expr->Bool}(h:onIf a F=true):∃x l r p,a= .IfExp x l r p/\F x l r=true:=by
 let⟨q,h⟩:=Zv h
 show Expr.IfExp.elim (motive_1:=fun a=>∀q:a.ctorIdx=5,Expr.IfExp.elim (motive_1:=fun _=>Bool) a q (fun x l r _=>F x l r)=true->∃x l r p,a= .IfExp x l r p/\F x l r=true) a q (fun x l r p _ h=>⟨x,l,r,p,rfl,h⟩) q h
def Yv5(a:Expr)(F:(List Expr)->Bool):Bool:=if q:a.ctorIdx=24 then Expr.List.elim (motive_1:=fun _=>Bool) a q (fun b _=>F b) else false
def Zo0{a:Expr}{F:(List Expr)->Bool}(h:Yv5 a F=true):∃ls p,a= .List ls p/\F ls=true:=by
 let⟨q,h⟩:=Zv h
 show Expr.List.elim (motive_1:=fun a=>∀q:a.ctorIdx=24,Expr.List.elim (motive_1:=fun _=>Bool) a q (fun ls _=>F ls)=true->∃ls p,a= .List ls p/\F ls=true) a q (fun ls p _ h=>⟨ls,p,rfl,h⟩) q h
def Yc3(a:Expr)(F:(List Expr)->Bool):Bool:=if q:a.ctorIdx=25 then Expr.Tuple.elim (motive_1:=fun _=>Bool) a q (fun b _ _=>F b) else false
def Fj{a:Expr}{F:(List Expr)->Bool}(h:Yc3 a F=true):∃ls j p,a= .Tuple ls j p/\F ls=true:=by
 let⟨q,h⟩:=Zv h
 show Expr.Tuple.elim (motive_1:=fun a=>∀q:a.ctorIdx=25,Expr.Tuple.elim (motive_1:=fun _=>Bool) a q (fun ls _ _=>F ls)=true->∃ls j p,a= .Tuple ls j p/\F ls=true) a q (fun ls j p _ h=>⟨ls,j,p,rfl,h⟩) q h
def Y84(a:Expr)(F:(List (Option Expr))->(List Expr)->Bool):Bool:=if q:a.ctorIdx=6 then Expr.Dict.elim (motive_1:=fun _=>Bool) a q (fun c b _=>F c b) else false
def C9{a:Expr}{F:(List (Option Expr))->(List Expr)->Bool}(h:Y84 a F=true):∃ks vs p,a= .Dict ks vs p/\F ks vs=true:=by
 let⟨q,h⟩:=Zv h
 show Expr.Dict.elim (motive_1:=fun a=>∀q:a.ctorIdx=6,Expr.Dict.elim (motive_1:=fun _=>Bool) a q (fun ks vs _=>F ks vs)=true->∃ks vs p,a= .Dict ks vs p/\F ks vs=true) a q (fun ks vs p _ h=>⟨ks,vs,p,rfl,h⟩) q h
def Yb3(a:Expr)(F:Expr->Expr->Bool):Bool:=if q:a.ctorIdx=21 then Expr.Subscript.elim (motive_1:=fun _=>Bool) a q (fun l r _=>F l r) else false
def Ej{a:Expr}{F:Expr->Expr->Bool}(h:Yb3 a F=true):∃l r p,a= .Subscript l r p/\F l r=true:=by
 let⟨q,h⟩:=Zv h
 show Expr.Subscript.elim (motive_1:=fun a=>∀q:a.ctorIdx=21,Expr.Subscript.elim (motive_1:=fun _=>Bool) a q (fun l r _=>F l r)=true->∃l r p,a= .Subscript l r p/\F l r=true) a q (fun l r p _ h=>⟨l,r,p,rfl,h⟩) q h
def Yr4(a:Expr)(F:(Option Expr)->(Option Expr)->(Option Expr)->Bool):Bool:=if q:a.ctorIdx=26 then Expr.Slice.elim (motive_1:=fun _=>Bool) a q (fun x y z _=>F x y z) else false
def Zi7{a:Expr}{F:(Option Expr)->(Option Expr)->(Option Expr)->Bool}(h:Yr4 a F=true):∃x y z p,a= .Slice x y z p/\F x y z=true:=by
 let⟨q,h⟩:=Zv h
 show Expr.Slice.elim (motive_1:=fun a=>∀q:a.ctorIdx=26,Expr.Slice.elim (motive_1:=fun _=>Bool) a q (fun x y z _=>F x y z)=true->∃x y z p,a= .Slice x y z p/\F x y z=true) a q (fun x y z p _ h=>⟨x,y,z,p,rfl,h⟩) q h
def Tb(b:Expr)(F:Expr->(List Expr)->(List Keyword)->Pos->Bool):Bool:=if q:b.ctorIdx=16 then Expr.Call.elim (motive_1:=fun _=>Bool) b q (fun d c a p=>F d c a p) else false
def Yi{c:Expr}{F:Expr->(List Expr)->(List Keyword)->Pos->Bool}(h:Tb c F=true):∃b ls a p,c= .Call b ls a p/\F b ls a p=true:=by
 let⟨q,h⟩:=Zv h
 show Expr.Call.elim (motive_1:=fun c=>∀q:c.ctorIdx=16,Expr.Call.elim (motive_1:=fun _=>Bool) c q (fun b ls a p=>F b ls a p)=true->∃b ls a p,c= .Call b ls a p/\F b ls a p=true) c q (fun b ls a p _ h=>⟨b,ls,a,p,rfl,h⟩) q h
def Ze0(a:Expr)(F:Expr->Str->Pos->Bool):Bool:=if q:a.ctorIdx=20 then Expr.Attribute.elim (motive_1:=fun _=>Bool) a q (fun l g p=>F l g p) else false
def Pt{a:Expr}{F:Expr->Str->Pos->Bool}(h:Ze0 a F=true):∃l g p,a= .Attribute l g p/\F l g p=true:=by
 let⟨q,h⟩:=Zv h
 show Expr.Attribute.elim (motive_1:=fun a=>∀q:a.ctorIdx=20,Expr.Attribute.elim (motive_1:=fun _=>Bool) a q (fun l g p=>F l g p)=true->∃l g p,a= .Attribute l g p/\F l g p=true) a q (fun l g p _ h=>⟨l,g,p,rfl,h⟩) q h
def onLC(c:Expr)(F:Expr->(List Comprehension)->Scope->Bool):Bool:=if q:c.ctorIdx=8 then Expr.ListComp.elim (motive_1:=fun _=>Bool) c q (fun d b a _=>F d b a) else false
def Z08{c:Expr}{F:Expr->(List Comprehension)->Scope->Bool}(h:onLC c F=true):∃b a scope p,c= .ListComp b a scope p/\F b a scope=true:=by
 let⟨q,h⟩:=Zv h
 show Expr.ListComp.elim (motive_1:=fun c=>∀q:c.ctorIdx=8,Expr.ListComp.elim (motive_1:=fun _=>Bool) c q (fun b a scope _=>F b a scope)=true->∃b a scope p,c= .ListComp b a scope p/\F b a scope=true) c q (fun b a scope p _ h=>⟨b,a,scope,p,rfl,h⟩) q h
def on0{a:Type}(l:List a)(b:Bool):Bool:=match l with
 | []=>b
 | _::_=>false
def on1{a:Type}(l:List a)(F:a->Bool):Bool:=match l with
 | []=>false
 | x::r=>on0 r (F x)
def onC{a:Type}(l:List a)(F:a->List a->Bool):Bool:=match l with
 | []=>false
 | x::r=>F x r
def Yq{a:Type}{l:List a}{b:Bool}(h:on0 l b=true):l=[]/\b=true:=by
 cases l with
 | nil=>show⟨rfl,h⟩
 | cons _ _=>left
def Ys{a:Type}{l:List a}{F:a->Bool}(h:on1 l F=true):∃x,l=[x]/\F x=true:=by
 cases l with
 | nil=>left
 | cons x r=>let⟨rfl,h⟩:=Yq h;show⟨x,rfl,h⟩
def Ba{a:Type}{l:List a}{F:a->List a->Bool}(h:onC l F=true):∃x r,l=x::r/\F x r=true:=by
 cases l with
 | nil=>left
 | cons x r=>show⟨x,r,rfl,h⟩
def noO{a:Type}(o:Option a)(b:Bool):Bool:=match o with
 | none=>b
 | some _=>false
def B0{a:Type}{o:Option a}{b:Bool}(h:noO o b=true):o=none/\b=true:=by
 cases o with
 | none=>show⟨rfl,h⟩
 | some _=>left
def onZ(i:Int)(b:Bool):Bool:=match i with
 | .ofNat 0=>b
 | _=>false
def Zh2{i:Int}{b:Bool}(h:onZ i b=true):i=0/\b=true:=by
 rcases i with(_ | n) | n
 .exact⟨rfl,h⟩
 .left
 .left
def soO{a:Type}(o:Option a)(F:a->Bool):Bool:=match o with
 | none=>false
 | some x=>F x
def Ya9{a:Type}{o:Option a}{F:a->Bool}(h:soO o F=true):∃x,o=some x/\F x=true:=by
 cases o with
 | none=>left
 | some x=>show⟨x,rfl,h⟩
mutual
noncomputable def chkE(k:Ck):E->Expr->Bool
 | .var i,d=>X7 d fun x=>k.N[i]?==some x&&k.vis x
 | .int i,d=>Pf d fun v=>match v with
  | .int j=>i==j
  | _=>false
 | .bl b,d=>Pf d fun v=>match v with
  | .bool c=>b==c
  | _=>false
 | .non,d=>Pf d fun v=>match v with
  | .none=>true
  | _=>false
 | .str x,d=>Pf d fun v=>match v with
  | .str y=>x==y
  | _=>false
 | .ty t,d=>X7 d fun x=>x==Str.ofString (Ym t)&&k.glob x&&k.BN.contains x
 | .glb g,d=>X7 d fun x=>k.GN[g]?==some x&&k.glob x
 | .bin C a b,d=>Yo0 d fun l o r=>o==opOf C&&chkE k a l&&chkE k b r
 | .neg a,d=>onUn d fun o l=>o== .USub&&chkE k a l
 | .not a,d=>onUn d fun o l=>o== .Not&&chkE k a l
 | .cmp C a b,d=>Ys2 d fun l M L=>on1 M fun o=>on1 L fun r=>o==cmOf C&&(!isIn C || Zb2 r)&&chkE k a l&&chkE k b r
 | .bop b s,d=>Y56 d fun o n=>o==(if b then .And else .Or)&&W1 k s n
 | .ife t a b,d=>onIf d fun x l r=>chkE k t x&&chkE k a l&&chkE k b r&&noIf t
 | .lst s,d=>Yv5 d fun n=>W1 k s n
 | .tup s,d=>Yc3 d fun n=>W1 k s n
 | .dict0,d=>Y84 d fun G D=>on0 G (on0 D true)
 | .dictT,.Dict [] [] _=>true
 | .dct a b,d=>Y84 d fun G D=>on1 G fun q=>soO q fun l=>on1 D fun r=>chkE k a l&&chkE k b r
 | .ix a b,d=>Yb3 d fun l r=>Cy r&&chkE k a l&&chkE k b r
 | .sl a F I,d=>Yb3 d fun l r=>Yr4 r fun x y z=>noO z (chkE k a l&&chkO k F x&&chkO k I y)
 | .slW a F I,.Subscript l (.Slice x y none _) _=>chkE k a l&&chkO k F x&&chkO k I y
 | .lrev a,.Call (.Name x _) [.Call (.Name y _) [l] [] _] [] _=>k.calm&&x==("list":Str)&&y==("reversed":Str)&&k.glob x&&k.glob y&&k.BN.contains x&&k.BN.contains y&&noStar l&&chkE k a l
 | .call f s,d=>Tb d fun A n p _=>X7 A fun x=>on0 p (k.calm&&k.FN[f]?==some x&&k.glob x&&W1 k s n)
 | .bf b s,d=>Tb d fun A n p _=>X7 A fun x=>on0 p (onC n fun l n=>(k.calm || Sc b)&&x==(bfOf b).1&&k.glob x&&k.BN.contains x&&W1 k s (l::n))
 | .mt m o s,d=>Tb d fun A n p R=>Ze0 A fun l O U=>on0 p (O==mtN m&&Zf5 l&&U.endLine==R.line&&decide (n.length<30)&&chkE k o l&&W1 k s n)
 | .comp B P K J S e,d=>onLC d fun Q w h=>on1 w fun g=>match g with
  | ⟨t,u,H,T⟩=>onZ T (k.calm&&Tz k.sc k.N B P h&&Zb2 u&&Zv7 k J u&&decide B.Nodup&&
   O1 {k with N:=B,sc:=Xy h k.sc,cells:=false,own:=B2 h,tries:=false,raises:=[]} K t&&chkC {k with N:=B,sc:=Xy h k.sc,cells:=false,own:=B2 h,tries:=false,raises:=[]} S H&&chkE {k with N:=B,sc:=Xy h k.sc,cells:=false,own:=B2 h,tries:=false,raises:=[]} e Q&&itTg J t)
 | _,_=>false
noncomputable def W1(k:Ck):Es->List Expr->Bool
 | .nil,[]=>true
 | .cons e r,x::a=>chkE k e x&&noStar x&&W1 k r a
 | _,_=>false
noncomputable def chkO(k:Ck):Eo->Option Expr->Bool
 | .no,none=>true
 | .yes e,some x=>chkE k e x
 | _,_=>false
noncomputable def chkC(k:Ck):Eo->List Expr->Bool
 | .no,[]=>true
 | .yes e,[x]=>chkE k e x&&noIf e
 | _,_=>false
noncomputable def Zv7(k:Ck):It->Expr->Bool
 | .seq e,x=>chkE k e x
 | .rng1 a,f=>Tb f fun d c b _=>X7 d fun x=>on0 b (on1 c fun l=>x==("range":Str)&&k.glob x&&k.BN.contains x&&noStar l&&chkE k a l)
 | .enm e,f=>Tb f fun d c b _=>X7 d fun x=>on0 b (on1 c fun l=>x==("enumerate":Str)&&k.glob x&&k.BN.contains x&&noStar l&&chkE k e l)
 | .zip g,f=>Tb f fun d c b _=>X7 d fun x=>on0 b (onC c fun l c=>x==("zip":Str)&&k.glob x&&k.BN.contains x&&W1 k g (l::c))
noncomputable def noIf:E->Bool
 | .ife _ _ _=>false
 | .not a=>noIf a
 | .bop _ b=>Z93 b
 | _=>true
noncomputable def Z93:Es->Bool
 | .nil=>true
 | .cons e r=>noIf e&&Z93 r
end
def Zu1(X:Cx)(x:Str)(sp:DSp):Prop:=
 ∃(d:Nat) (f:Uc) (e:FuncData) (c:LS) (g:LW) (b:LV) (h:LD) (a:DSp),FnOk X.prog X.w X.K X.mg X.base (CX1 X.prog X.w) d f e c (spF X.K a)/\Room d X.A/\X.mg x=↑f/\Dm X.K (.ref f)=true/\
  Yg X.K e c g/\Vals b g/\(∀w:Vw,w.K=X.K->RDs w h b)/\∀i M Q Z,sp i M Q Z->a (i++h) M Q Z
def N1(K:Ab):Sp:=fun b H Q _=>∃e C y,b=[V.ref e,y]/\H e=some (XN e (.ref C) none)/\ExcSet K C "row"/\∀a,H a=none->Q .non (upd (upd H a (.xd [("row",y)])) e (XN e (.ref C) (some a)))
def Y22(X:Cx)(C:Uc):Prop:=∃(b:Nat) (f:Uc) (a:FuncData),ExcMk X.K C f/\FnOk X.prog X.w X.K X.mg X.base CX0 b f a ["self","row"] (N1 X.K)/\Room (b+1) X.A/\Yg X.K a ["self","row"] [.none]/\Yg X.K a ["self","row"] []/\ExcSet X.K C "row"
structure Good(c:Cfg)(k:Ck)(Z:DX)(w0:Vw)(X:Cx):Prop where
 hK:X.K=c.K
 wK:w0.K=c.K
 N:X.N=k.N
 nd:X.N.Nodup
 sc:X.env.scope=k.sc
 calm:k.calm=true->X.calm=true
 units:X.A.units+64<cLine
 fns:k.calm=true->∀(f:Nat) (x:Str) (sp:DSp),k.FN[f]?=some x->c.Γ[f]?=some sp->Zu1 X x sp
 flen:k.FN.length=c.Γ.length
 glb:∀(g:Nat) (x:Str) (d:D),k.GN[g]?=some x->c.G[g]?=some d->∃v u,X.mg x=some u/\RelV v u/\∀w:Vw,w.K=X.K->RD w d v
 blt:∀x,x∈k.BN->X.mg x=none
 exc:∃E,Gi (CX1 X.prog X.w) X E/\∀cls dd H',xkOf w0 Z cls dd H'->E cls dd H'
 stk:k.tries=true->X.stack=X.env::X.outer/\X.env.frame=some X.env.locals
 rai:∀g:Nat,k.raises.contains g=true->(∃E,Leaves X E/\∀cls dd H',xkOf w0 Z cls dd H'->E cls dd H')/\∀C:Uc,c.G[g]?=some (.cls C)->Y22 X C
 po:k.loops=true->PassesOwn (model X.prog X.w) X.A X.env X.xe
 fnc:k.cells=true->∀x,X.fn x=true
 fno:∀x,x∈k.own->X.fn x=true
def Fw{w c:Vw}{a:Ua}{d:Option Uc}(x:Ext w c)(h:xkOf c Z a d H'):xkOf w Z a d H':=by
 let⟨C,l,r,e,b,M,k,j,i,g,f⟩:=h
 show⟨C,l,r,e,b,M,k,j,i,x.trans g,f⟩
def ttD(f:DE):DT:=fun c M Q=>f c M fun x a=>truD a x fun b=>Q b a
section
variable{c:Cfg}{k:Ck}{Z:DX}{w0:Vw}{X:Cx}
def Good.gl(G:Good c k Z w0 X){x:Str}(h:k.glob x=true):Gl X x/\(x==("__debug__":Str))=false/\x≠"__name__":=by
 unfold Ck.glob at h
 simp only[Bz9,beq_iff_eq,Bool.not_eq_true',beq_eq_false_iff_ne] at h
 refine⟨?_,↥h.1.2,h.2⟩
 unfold Gl Env.kindOf
 rw[G.sc];show h.1.1
def Good.vis(G:Good c k Z w0 X){x:Str}(h:k.vis x=true):Vis X.env.scope x/\(x==("__debug__":Str))=false/\(x==("__classdict__":Str))=false:=by
 unfold Ck.vis at h
 simp only[Bz9,beq_iff_eq,Bool.not_eq_true',Bool.or_eq_true] at h
 refine⟨?_,h.1.2,h.2⟩
 unfold Vis
 rw[G.sc]
 rcases h.1.1 with(q | q) | q
 .exact .inl q
 .exact .inr (.inl q)
 .exact .inr (.inr q)
def Good.locC(G:Good c k Z w0 X){x:Str}(h:k.locC x=true):Loc X.env.scope x/\(X.fn x=true\/X.env.scope.names.lookup x=some .local):=by
 unfold Ck.locC Ck.loc at h
 rw[Bool.or_eq_true,Bz9] at h
 rcases h with h | ⟨h1,h2⟩
 .have a:X.env.scope.names.lookup x=some .local:=by rw[G.sc];show Kj h
  show⟨.inl a,.inr a⟩
 .refine⟨.inr (by rw[G.sc];show Kj h2),.inl ?_⟩
  rw[Bool.or_eq_true,Hq] at h1
  rcases h1 with z | z
  .exact G.fnc z x
  .exact G.fno x z
def Good.eK(G:Good c k Z w0 X):X.K=w0.K:=G.hK.trans G.wK.symm
def StOk.K{w w0:Vw}{a:DEnv}{M:Z2}{b:L2.St}{H:Hp}(S:StOk w0 w a M b H):w.K=w0.K:=S.ext.K
def Zy{f:DE}{d:L2.St}{b:DEnv}{H:Hp}(S:StOk w0 w b M d H)(h:f b M QD)(a:Aft w QD Q):tF w0 f d H Q:=⟨w,b,M,QD,S,h,a⟩
def Gq{l:Expr}{a:Str}(h:Zf5 l=true):attributeBase l a env (eval l env)=eval l env:=by
 cases l with
 | Call f b c p=>
  cases f with
  | Name id q=>
   cases b with
   | nil=>
    cases c with
    | nil=>show nh (by rw[show(id !=("super":Str))=true from h];rfl)
    | cons _ _=>rfl
   | cons _ _=>rfl
  | _=>rfl
 | _=>rfl
def Zs{x:Expr}(h:noStar x=true):starEach (x::xs) env=(false,eval x env)::starEach xs env:=by
 cases x<;>first | rfl | cases h
def X9{k:Ck}:∀(es:Es) (xs:List Expr),W1 k es xs=true->(starEach xs env).all (fun p=> !p.1)=true
 | .nil,[],_=>rfl
 | .nil,_::_,h=>absurd h Bf9
 | .cons e r,[],h=>absurd h Bf9
 | .cons e r,x::xs,h=>by
  change (_&&_)=true at h;simp only[Bz9] at h
  rw[Zs h.1.2]
  simp only[Hs,Bool.not_false,Bool.true_and]
  show X9 r xs h.2
def Tn{l:List (Bool×Sem Ua)}(h:l.all (fun p=> !p.1)=true):(backTo pos l).any (·.1)=false:=by
 induction l with
 | nil=>rfl
 | cons p r a=>
  simp only[Hs,Bz9,Bool.not_eq_true'] at h
  show(p.1 || (backTo pos r).any (·.1))=false
  rw[h.1,a h.2];rfl
def Zx4{l:List (Bool×Sem Ua)}(h:l.all (fun p=> !p.1)=true):(backTo pos l).all (fun x=> !x.1)=true:=by
 induction l with
 | nil=>rfl
 | cons p r a=>
  simp only[Hs,Bz9] at h
  show((!p.1)&&(backTo pos r).all (fun x=> !x.1))=true
  rw[h.1,a h.2];rfl
def Yx1{f:DE}{i:Expr}(G:Good c k Z w0 X)(h:PE X i (tF w0 f))(p:∀e,isTrue i X.env e=(do let v <-e;standAt i.pos;holding [v] (truthy v))):PT X i (tFT w0 (ttD f)):=by
 refine PT.imp (Y27 h p) fun t H Q zz67=>?_
 let⟨w,j,M,u,S,g,a⟩:=zz67
 refine Zy S g fun v l d s x r o q=>?_
 let⟨b,n,m⟩:=Tu (K:=X.K) (by rw[x.K,S.K,G.eK]) r o q
 show⟨b,n,a b l s x r m⟩
def Yj5{f:DE}{i:Expr}(h:PT X i (Ys0 (tF w0 f)))(m:∀e M QD,f e M QD->f e M fun d M'=>(∃b,d= .bl b)/\QD d M'):PT X i (tFT w0 (ttD f)):=by
 refine PT.imp h fun n H Q zz68=>?_
 let⟨w,e,M,QD,S,g,a⟩:=zz68
 refine Zy S (m _ _ _ g) fun v j d M' x r l q=>?_
 let⟨⟨b,rfl⟩,q⟩:=q
 cases Xb.mp l
 show⟨b,rfl,a b j M' x r q⟩
def Zp9{l j:DE}{g:D->D->Z2->DK->Prop}{i:L2.St}{H:Hp}(h:tF w0 (fun b M QD=>l b M fun x m=>j b m fun y f=>g x y f QD) i H Q):tOp (rF w0 g) (tF w0 l) (tF w0 j) i H Q:=by
 let⟨w,b,M,QD,S,g0,a⟩:=h
 refine Zy S g0 fun x z v m e r p t=>?_
 refine Zy (S.next e r) t fun y n u f d q o s=>?_
 show⟨n,f,v,u,QD,rfl,(S.ext.trans e).trans d,q,p.ext d,o,s,a.ext (e.trans d)⟩
def E5{o n:DE}{g:Z2->D->D->(Bool->Prop)->Prop}{H:Hp}(h:tF w0 (fun d M QD=>o d M fun x p=>n d p fun y e=>g e x y fun b=>QD (.bl b) e) j H Q):tOp (rB w0 g) (tF w0 o) (tF w0 n) j H Q:=by
 let⟨w,d,M,QD,S,g0,a⟩:=h
 refine Zy S g0 fun x B A p i s r u=>?_
 refine Zy (S.next i s) u fun y l z e f m q t=>?_
 show⟨l,e,A,z,_,rfl,((S.ext.trans i).trans f).K,m,r.ext f,q,t,fun b v=>a _ l _ e (i.trans f) m (Xb.mpr rfl) v⟩
def Yb1{a:Expr}{i:TE}(o:PE X a i):PE X (.UnaryOp .Not a pos) (fun e H Q=>i e H fun x f=>∃b,TruV X.K x f b/\Q (.bl (!b)) f):=by
 intro d s e H Q I h
 refine UnaryOp_ (thn (o d s e H _ I h) fun v j zz69=>?_)
 let⟨x,f,q,l,n⟩:=zz69
 refine not_of (thn (Bw d j e f x v (fun b g=>Q (.bl (!b)) g) q l n) fun b r zz70=>by let⟨g,p,m⟩:=zz70;show⟨.bl (!b),g,p,rfl,m⟩)
def Y83(t:Ty):bootBuiltins (Str.ofString (Ym t))=some (.type (Ym t)):=by
 cases t
 .exact boot_int
 .exact boot_str
 .exact boot_bool
 .exact boot_list
 .exact boot_tuple
 .exact boot_dict
 .change bootBuiltins "ValueError"=some (.type "ValueError")
  decide+kernel
def Bc:bootBuiltins "sorted"=some (.builtin "sorted"):='k'
def Jx:bootBuiltins "reversed"=some (.type "reversed"):='k'
def Y90(b:Bf):bootBuiltins (bfOf b).1=some (bfOf b).2:=by
 cases b<;>first | show PySem.boot_len | show boot_isinstance | show PyProof.Rows.boot_min | show PyProof.Rows.boot_max | show boot_list | show boot_tuple | show boot_dict | show boot_str | show Bc | show boot_int
end
def JOk(w1:Vw)(J:L2.It)(own:Own)(xs:LD):Prop:=∀w M,Ext w1 w->RS w M->Pp own xs M->∀i:Nat,
 (∀d,xs[i]?=some d->J.go i w.H/\∀x b,J.yld i w.H x b->∃a,a.H=b/\Ext w a/\RS a M/\RD a d x)/\(xs.length<=i->J.stop i w.H)
def iF(w0:Vw)(f:DEnv->Z2->(Own->LD->Z2->Prop)->Prop):TI:=fun h H R=>∃w a M e,StOk w0 w a M h H/\f a M e/\
 ∀J c b d g,Ext w c->RS c g->JOk c J b d->e b d g->R J c.H
section
variable{c:Cfg}{k:Ck}{Z:DX}{w0:Vw}{X:Cx}
def PI.imp{d e:Expr}{t t':TI}(h:PI X d e t)(q:∀a H R,t' a H R->t a H R):PI X d e t':=fun b s a H R I z=>h b s a H R I (q a H R z)
def Yr2{w l:Expr}(B:PE X l r):PI X w l (fun m H R=>r m H fun x g=>(∃a,x= .ref a/\(∃xs,SqL X.K g a xs)/\R (Itl X.K a) g)\/∃a,x= .ref a/\(∃xs,SqT X.K g a xs)/\R (Itt X.K a) g):=by
 intro f s m H R I h
 refine thn (B f s m H _ I h) fun v d zz71=>?_
 let⟨x,g,i,t,z⟩:=zz71
 have u:∀b∈[d⁻¹],FpOk X f g b:=fun b C=>by
  have e:b=d⁻¹:=by simpa using C
  subst e
  show i.fpOk (nc _) (i.hok.fresh (nc _))
 rcases z with⟨a,e,⟨xs,n⟩,q⟩ | ⟨a,e,⟨xs,n⟩,q⟩
 .subst e
  cases t
  let⟨j,y,p,A⟩:=i.list n
  refine wpAny_pyIter_list p.isList ?_
  show⟨d⁻¹,[d⁻¹],_,_,g,rfl,i.kept (t':=d.toks) fun b o e=>Ah _ e,Zq1 a _,⟨_,Aq _ rfl,rfl,rfl⟩,u,q⟩
 .subst e
  cases t
  let⟨j,y,p,A⟩:=i.tuple n
  refine wpAny_pyIter_tuple (show d.heap.IsTuple a j.toArray from p) ?_
  show⟨d⁻¹,[d⁻¹],_,_,g,rfl,i.kept (t':=d.toks) fun b o e=>Ah _ e,Zc3 a _,⟨_,Aq _ rfl,rfl,rfl⟩,u,q⟩
def Yi7{y l:Expr}{p:TE}(E:PE X l p):PI X y l (fun n H R=>p n H fun x j=>∃a kvs,x= .ref a/\j a=some (.dK kvs)/\∀o,(∀B u,X.H₀ a≠some (.frz B u))->R (Itd a o) (upd j a (.frz o (.dK kvs)))):=by
 intro d s n H R I h
 refine thn (E d s n H _ I h) fun v g zz72=>?_
 let⟨x,j,w,A,a,kvs,e,r,q⟩:=zz72
 subst e
 cases A
 let⟨o,M,N,t,L,m,C⟩:=Zt2 w r
 let⟨K,z,J,i⟩:=Zk3 (m.hok a _ Zl) t
 let⟨_,D,_⟩:=Cu w.hok r
 refine wpAny_pyIter_dict D J ?_
 have f:upd j a (.frz o (.dK kvs)) g⁻¹=none:=m.hok.fresh (nc _)
 have G:∀b∈[g⁻¹],FpOk X d (upd j a (.frz o (.dK kvs))) b:=fun b F=>by
  have e:b=g⁻¹:=by simpa using F
  subst e
  show m.fpOk (nc _) f
 rw[i]
 show⟨g⁻¹,[g⁻¹],_,_,_,rfl,m.kept (t':=g.toks) fun b o e=>Ah _ e,Zh0 a _ t,⟨_,Aq _ rfl,rfl,rfl⟩,G,q o C⟩
def Y46:∀{ds:KQ9} {vs:List (Key×V)} {i:Nat} {d:D},RKV w ds vs->(Jg ds)[i]?=some d->∃p,vs[i]?=some p/\RD w d (kV p.1)
 | [],vs,i,d,h,e=>by simp[Jg] at e
 |(k,x)::ds,vs,i,d,h,e=>by
  unfold RKV at h
  let⟨v,r,rfl,b,a⟩:=h
  cases i with
  | zero=>
   cases e
   refine⟨(k,v),rfl,?_⟩
   cases k with
   | inl i=>show Zf.mpr rfl
   | inr x=>show Zq.mpr rfl
  | succ i=>show Y46 (i:=i) a e
def Zy2{n:Nat}(t:n<w1.n)(h:w1.H (w1.μ n)=some (.frz o (.dK vs))):JOk w1 (Itd (w1.μ n) o) (.dct n) xs:=by
 intro w M x R a i
 let⟨s,a,rfl⟩:=a
 have q:=x.imm _ _ h rfl
 let⟨B,z,l,j⟩:=R.cell n _ a
 rw[x.μ n t,q] at l
 cases l
 refine⟨fun d e=>?_,fun b=>⟨vs,q,by rw[j.length];unfold Jg at b;rw[Af] at b;show b⟩⟩
 let⟨p,g,r⟩:=Y46 j e
 refine⟨⟨vs,p,q,g⟩,fun y C ⟨v,u⟩=>⟨w,v.symm,Ext.refl w,R,?_⟩⟩
 let⟨A,f,m⟩:=u vs q
 rw[g] at f
 cases f
 rw[m]
 show r
def Zt6{n:Nat}(o:X.K=w1.K)(l:n<w1.n):JOk w1 (Itl X.K (w1.μ n)) (.lst n) xs:=by
 intro w M x R j i
 let⟨_,b,a,g,_⟩:=R.listL j
 rw[x.μ n l,x.K,<-o] at a
 refine⟨fun d e=>?_,fun m=>⟨b,a,by rw[g.length];show m⟩⟩
 let⟨v,f,h⟩:=g.get e
 refine⟨⟨b,v,a,f⟩,fun y r ⟨q,p⟩=>⟨w,q.symm,Ext.refl w,R,?_⟩⟩
 have:=p b a
 rw[f] at this
 cases this
 show h
def Zz7{n:Nat}(q:X.K=w1.K)(o:n<w1.n):JOk w1 (Ite X.K (w1.μ n)) (.enm n) xs:=by
 intro w M x R f i
 let⟨C,f,rfl⟩:=f
 let⟨_,b,a,j,_⟩:=R.listL f
 rw[x.μ n o,x.K,<-q] at a
 refine⟨fun d e=>?_,fun g=>⟨b,a,by rw[j.length];unfold C4 at g;rw[List.length_mapIdx] at g;show g⟩⟩
 unfold C4 at e
 rw[Lv,Ch] at e
 let⟨d,e,rfl⟩:=e
 let⟨v,h,l⟩:=j.get e
 refine⟨⟨b,v,a,h⟩,fun y E zz75=>?_⟩
 let⟨p,u,m,t,s,r⟩:=zz75
 have:=r b a
 rw[h] at this
 cases this
 subst t s
 let⟨B,A,z⟩:=Vh R m (RDs.cons (Zf.mpr (rfl:V.int (i:Int)=_)) (RDs.cons l (RDs.nil w)))
 show⟨_,rfl,B,A,z⟩
def Zq4{ys a:LD}(f:RDs w ys us)(b:RDs w a vs){i:Nat}{d:D}(e:(zipT ys a)[i]?=some d):∃x y u v,d= .tup [x,y]/\us[i]?=some u/\vs[i]?=some v/\RD w x u/\RD w y v:=by
 unfold zipT at e
 rw[Ao,Ch] at e
 let⟨p,e,rfl⟩:=e
 rw[List.getElem?_zip_eq_some] at e
 let⟨u,l,j⟩:=f.get e.1
 let⟨v,h,g⟩:=b.get e.2
 show⟨_,_,u,v,rfl,l,h,j,g⟩
def Yj6{n m:Nat}(r:X.K=w1.K)(C:n<w1.n)(E:m<w1.n):JOk w1 (Itz X.K (w1.μ n) (w1.μ m)) (.two n m) xs:=by
 intro w M x R j i
 let⟨S,Q,j,h,rfl⟩:=j
 let⟨_,g,a,l,_⟩:=R.listL j
 let⟨_,f,b,o,_⟩:=R.listL h
 rw[x.μ n C,x.K,<-r] at a
 rw[x.μ m E,x.K,<-r] at b
 refine⟨fun d e=>?_,fun q=>⟨g,f,a,b,?_⟩⟩
 .let⟨dx,Y,u,v,rfl,A,z,P,O⟩:=Zq4 l o e
  refine⟨⟨g,f,u,v,a,b,A,z⟩,fun y H' zz76=>?_⟩
  let⟨p,U,T,B,I,H,G,F⟩:=zz76
  have t:=G g a
  have s:=F f b
  rw[A] at t
  rw[z] at s
  cases t
  cases s
  subst I H
  let⟨N,L,J⟩:=Vh R B (RDs.cons P (RDs.cons O (RDs.nil w)))
  show⟨_,rfl,N,L,J⟩
 .have W:=l.length
  have V:=o.length
  unfold zipT at q
  rw[Af,List.length_zip] at q
  lia
def Y14{a b:D}(h:zip2 M a b Q):(∃n m ys d,a= .ref n/\b= .ref m/\Z7 M n=some ys/\Z7 M m=some d/\Q (.two n m) (zipT ys d))\/(∃ys d,a= .tup ys/\b= .tup d/\Q .no (zipT ys d)):=by
 cases a with
 | ref n=>
  let⟨m,rfl,ys,d,e,g,f⟩:=Yw h
  show .inl ⟨n,m,ys,d,rfl,rfl,e,g,f⟩
 | tup ys=>
  let⟨d,rfl,e⟩:=Pd h
  show .inr ⟨ys,d,rfl,rfl,e⟩
 | _=>show Bk h
def Zt1{a b:Uc}{ys f:LD}(B:w1.H a=some (.tup us))(A:w1.H b=some (.tup vs))(t:RDs w1 ys us)(s:RDs w1 f vs):JOk w1 (Itzt X.K a b us vs) .no (zipT ys f):=by
 intro w M x R P i
 have h:SqT X.K w.H a us:= .of (x.imm _ _ B rfl)
 have l:SqT X.K w.H b vs:= .of (x.imm _ _ A rfl)
 have g:=t.ext x
 have j:=s.ext x
 refine⟨fun d e=>?_,fun m=>⟨h,l,?_⟩⟩
 .let⟨U,T,u,v,rfl,r,q,L,J⟩:=Zq4 g j e
  refine⟨⟨u,v,h,l,r,q⟩,fun y W zz77=>?_⟩
  let⟨p,O,N,z,E,C,o,n⟩:=zz77
  rw[r] at o
  rw[q] at n
  cases o
  cases n
  subst E C
  let⟨I,G,F⟩:=Vh R z (RDs.cons L (RDs.cons J (RDs.nil w)))
  show⟨_,rfl,I,G,F⟩
 .have S:=g.length
  have Q:=j.length
  unfold zipT at m
  rw[Af,List.length_zip] at m
  lia
def Zm5{a:Uc}(m:X.K=w1.K)(h:SqT w1.K w1.H a vs)(r:RDs w1 xs vs):JOk w1 (Itt X.K a) .no xs:=by
 intro w M x R p i
 have b:=x.sqT h
 rw[x.K,<-m] at b
 have g:=r.ext x
 refine⟨fun d e=>?_,fun l=>⟨vs,b,by rw[g.length];show l⟩⟩
 let⟨v,f,j⟩:=g.get e
 refine⟨⟨vs,v,b,f⟩,fun y q ⟨o,n⟩=>⟨w,o.symm,Ext.refl w,R,?_⟩⟩
 have:=n vs b
 rw[f] at this
 cases this
 show j
def Yh1{w1:Vw}{lo:Int}{n:Nat}:JOk w1 (Itr lo n) .no (Js lo n):=by
 intro w M x R p i
 unfold Js
 refine⟨fun d e=>?_,fun a=>?_⟩
 .rw[Ao,Ch] at e
  let⟨j,l,rfl⟩:=e
  let⟨h,g⟩:=Ac.mp l
  have b:j=i:=by simpa using g.symm
  subst b
  have f:j<n:=by simpa using h
  show⟨f,fun y q zz79=>by let⟨o,m⟩:=zz79;show⟨w,o.symm,Ext.refl w,R,by rw[m];show Zf.mpr rfl⟩⟩
 .have:n<=i:=by simpa using a
  show this
def Zo1{d:LS}{b:List (Str×Uc)}{a:List Uc}{s:Ub}{H:Hp}:(cxC X d scope b C a pins s H).env.scope=Xy scope X.env.scope:=rfl
def Good.block(G:Good c k Z w0 X)(j:k.calm=true){i:LS}(p:i.Nodup)(w:List (Str×Uc))(C:Uc)(q:List Uc)(pins:PLO)(s:Ub)(H:Hp):
  Good c {k with N:=i,sc:=Xy scope k.sc,cells:=false,own:=B2 scope,tries:=false,raises:=[]} noX w0 (cxC X i scope w C q pins s H) where
 hK:=G.hK
 wK:=G.wK
 N:=rfl
 nd:=p
 sc:=by rw[Zo1,G.sc]
 calm:=fun _=>G.calm j
 units:=G.units
 fns:=fun _ f x l e d=>by
  let⟨n,f,r,m,t,g,u,a,h⟩:=G.fns j f x l e d
  show⟨n,f,r,m,t,g,u,a,h⟩
 flen:=G.flen
 glb:=G.glb
 blt:=G.blt
 exc:=⟨E0,fun _ _ _ _ _ _ _ h=>by
  let⟨_,_,_,_,_,_,_,_,_,_,_,_,_,_,_,h⟩:=h
  show h.elim,fun v z A h=>by
  let⟨_,_,_,_,_,_,_,_,_,_,_,_,_,h⟩:=h
  show h.elim⟩
 stk:=fun h=>by cases h
 rai:=fun _ h=>absurd h Bf9
 po:=fun _=>PassesOwn.never
 fnc:=fun h=>by cases h
 fno:=fun x b=>by
  show(scope.names.any fun y=>y.1==x&&y.2==Hf)=true
  have b:x∈(scope.names.filter fun y=>y.2==Hf).map (·.1):=b
  let⟨y,o,rfl⟩:=Hy.mp b
  let⟨e,d⟩:=List.mem_filter.mp o
  rw[Le]
  show⟨y,e,by rw[beq_self_eq_true,Bool.true_and];show d⟩
def Good.tgs(G:Good c k Z w0 X):∀(b:LQ) (es:List Expr),Zk2 k b es=true->PGs X es (gAll b)/\(assignEach es X.env).length=b.length/\(assignEach es X.env).findIdx? (·.1)=none:=by
 have d:∀(i:Nat) (x:Str) (a:Pos),k.N[i]?=some x->k.locC x=true->PG X (.Name x a) (Zs2 i):=fun i x a g f=>by
  let⟨l,j⟩:=G.locC f
  show Zi9 G.nd (by rw[G.N];show g) l j
 intro b
 induction b with
 | nil=>
  intro es h
  cases es with
  | nil=>show⟨Ye6,rfl,rfl⟩
  | cons e es=>left
 | cons i b m=>
  intro es h
  cases es with
  | nil=>left
  | cons e es=>
   cases e with
   | Name x a=>
    change (_&&_)=true at h
    simp only[Bz9,beq_iff_eq] at h
    let⟨g,f,n⟩:=m es h.2
    refine⟨Zv6 (d i x a h.1.1 h.1.2) g rfl,?_,?_⟩
    .show(assignEach es X.env).length+1=b.length+1
     rw[f]
    .show((false,_)::assignEach es X.env).findIdx? (·.1)=none
     rw[List.findIdx?_cons,n]
     rfl
   | _=>left
def Good.tgt(G:Good c k Z w0 X):∀(d:LQ) (e:Expr),O1 k d e=true->PG X e (gF w0 d):=by
 have f:∀(i:Nat) (x:Str) (a:Pos),k.N[i]?=some x->k.locC x=true->PG X (.Name x a) (Zs2 i):=fun i x a j g=>by
  let⟨m,l⟩:=G.locC g
  show Zi9 G.nd (by rw[G.N];show j) m l
 have b:=G.tgs
 intro d e h
 cases e with
 | Name x a=>
  match d,h with
  | [i],h=>
   change (_&&_)=true at h
   simp only[Bz9,beq_iff_eq] at h
   show Yp4 (f _ x a h.1 h.2)
  | [],h=>left
  | _::_::_,h=>left
 | Tuple o p a=>
  change (_&&_)=true at h
  simp only[Bz9,decide_eq_true_eq] at h
  let⟨j,g,n⟩:=b d o h.2
  show Ye4 h.1.2 (Y39 (G.calm h.1.1) j g n)
 | _=>left
def Yf9{b:List (Option Nat)}{a:DEnv}{g:L2.St}(h:REnv w a g):REnv w (capD b a) (Sb b g):=by
 refine⟨by unfold capD Sb;simp,fun i d e=>?_⟩
 unfold capD at e
 unfold Sb
 rw[Ao] at e ⊢
 cases l:b[i]? with
 | none=>rw[l] at e;cases e
 | some o=>
  rw[l] at e
  simp only[Option.map_some,Option.some.injEq] at e ⊢
  cases o with
  | none=>cases e
  | some j=>
   simp only[Option.bind_some] at e ⊢
   cases f:a[j]? with
   | none=>rw[f] at e;cases e
   | some z=>
    rw[f] at e
    have p:z=some d:=e
    subst p
    let⟨v,n,m⟩:=h.2 j d f
    show⟨v,by rw[n];rfl,m⟩
def Y13{own:Own}{l:Z2}{t:DEnv}(e0:Ext w0 w1)(hH:w1.H=H1)(R1:RS w1 l)(env:REnv w1 t σ)(jk:JOk w1 J own xs)
  (h:Np own xs U cd el l.length xs t (l++[.lst []]) QD) (a:Aft w1 (fun d M=>d= .ref l.length/\QD M) Q):∀p,H1 p=none->∃W:Nat->Nat->L2.St->Hp->Prop,(∃m,W 0 m σ (upd H1 p (.lst [])))/\
   ∀i m f s,W i m f s->(J.stop i s/\Q (.ref p) s)\/(J.go i s/\∀x H',J.yld i s x H'->gF w0 U x f H' fun j H2=>tFT w0 cd j H2 fun b H3=>if b=true then tF w0 el j H3 fun y H4=>∃r,H4 p=some (.lst r)/\r.length<sizeLine/\
    ∃I,I<m/\W (i+1) I j (upd H4 p (.lst (r++[y]))) else ∃I,I<m/\W (i+1) I j H3):=by
 intro p hp
 subst hH
 let⟨T,R2,rz⟩:=Wo (xs:=[]) R1 hp (RDs.nil w1)
 have hz:l.length< (w1.push p (.lst [])).n/\p=(w1.push p (.lst [])).μ l.length:=by
  let⟨E,N⟩:=Zk.mp rz
  show⟨E,by injection N⟩
 refine⟨fun i m f s=>∃w o M,StOk w0 w o M f s/\Ext (w1.push p (.lst [])) w/\i<=xs.length/\m=xs.length - i/\Np own xs U cd el l.length (xs.drop i) o M QD,⟨xs.length,w1.push p (.lst []),t,_,⟨rfl,e0.trans T,R2,env.ext T⟩,Ext.refl _,nl _,rfl,h⟩,?_⟩
 rintro i m f s ⟨w,o,M,S,F,hi,rfl,C⟩
 have G:Ext w1 w:=T.trans F
 have K:w.μ l.length=p:=(F.μ _ hz.1).trans hz.2.symm
 have L:l.length<w.n:=ni hz.1 F.n
 have A:∀B:Pp own xs M,_:=fun B=>jk w M G S.rs B i
 rw[S.heap] at A
 by_cases q:i<xs.length
 .rw[Dz q] at C
  let⟨B,C⟩:=C
  let⟨j1,j2⟩:=(A B).1 xs[i] (Ag q)
  refine .inr ⟨j1,fun x H' hy=>?_⟩
  let⟨w3,rfl,z,R3,Y⟩:=j2 x H' hy
  refine⟨w3,o,M,xs[i],_,⟨rfl,S.ext.trans z,R3,S.env.ext z⟩,Y,C,fun j g e q2=>?_⟩
  refine⟨w3,g,M,_,⟨rfl,S.ext.trans z,R3,e⟩,q2,fun b w4 M4 u R4 R=>?_⟩
  cases b with
  | true=>
   rw[nh rfl] at R ⊢
   refine Zy ⟨rfl,(S.ext.trans z).trans u,R4,e.ext u⟩ R fun y P dy M5 x5 R5 V q5=>?_
   let⟨r,g1,g2,g3⟩:=q5
   let⟨hn,vs,E,N⟩:=R5.list g1
   have v:Ext w P:=(z.trans u).trans x5
   have z0:P.μ l.length=p:=(v.μ _ L).trans K
   let⟨O,y2⟩:=X3 R5 hn E (N.append (RDs.cons V (RDs.nil P)))
   rw[z0] at E O y2
   refine⟨vs,E,by rw[N.length];show g2,xs.length - (i+1),'o',P.alloc p (.lst (vs++[y])),g,_,⟨rfl,(S.ext.trans v).trans O,y2,(e.ext (u.trans x5)).ext O⟩,(F.trans v).trans O,q,rfl,g3⟩
  | false=>
   rw[ng Bf9] at R ⊢
   show⟨xs.length - (i+1),'o',w4,g,M4,⟨rfl,(S.ext.trans z).trans u,R4,e.ext u⟩,(F.trans z).trans u,q,rfl,R⟩
 .rw[Ls 'o'] at C
  let⟨B,hq⟩:=C
  refine .inl ⟨(A B).2 'o',?_⟩
  have:=a (.ref p) w (.ref l.length) M G S.rs (Zk.mpr ⟨L,by rw[K]⟩) ⟨rfl,hq⟩
  rw[S.heap] at this
  show this
end
def Y70(c:Cfg)(e:E):Prop:=∀(k:Ck) (Z:DX) (a:Vw) (X:Cx) (b:Expr),Good c k Z a X->chkE k e b=true->PE X b (tF a (te c Z e))/\(noIf e=true->PT X b (tFT a (ttD (te c Z e))))
def Yf7(c:Cfg)(es:Es):Prop:=∀(k:Ck) (Z:DX) (d:Vw) (X:Cx) (e:List Expr),Good c k Z d X->W1 k es e=true->PA X e (tFA d (tes c Z es))/\
 ∀(b:Bool) (a:Pos),PE X (.BoolOp (if b then .And else .Or) e a) (tF d (tbop c Z b es))/\(Z93 es=true->PW X (.BoolOp (if b then .And else .Or) e a) (tFT d (ttD (tbop c Z b es))))
def Y43(c:Cfg)(b:Eo):Prop:=(∀(k:Ck) (Z:DX) (a:Vw) (X:Cx) (e:Option Expr),Good c k Z a X->chkO k b e=true->PO X e (tFO a (teo c Z b)))/\
 ∀(k:Ck) (Z:DX) (a:Vw) (X:Cx) (d:List Expr),Good c k Z a X->chkC k b d=true->(∃x,d=[x]/\PT X x (tFT a (tcd c Z b)))\/(d=[]/\b= .no)
def Yr9(c:Cfg)(a:It):Prop:=∀(k:Ck) (Z:DX) (b:Vw) (X:Cx) (d e:Expr),Good c k Z b X->Zv7 k a e=true->itTg a d=true->PI X d e (iF b (tit c Z a))
section
variable{c:Cfg}{k:Ck}{Z:DX}{w0:Vw}{X:Cx}
def Oz{d:D}{v:V}{b:L2.St}{H:Hp}(f:∀w:Vw,w.K=w0.K->RD w d v)(h:tF w0 (fun _ M Q=>Q d M) b H Q):tC v b H Q:=by
 let⟨w,e,M,i,S,g,a⟩:=h
 have:=a v w d M (Ext.refl w) S.rs (f w S.K) g
 rw[S.heap] at this
 show this
def both{f:DE}{d:Expr}{b:Bool}(G:Good c k Z w0 X)(h:PE X d (tF w0 f))(e:∀a,isTrue d X.env a=(do let v <-a;standAt d.pos;holding [v] (truthy v))):
  PE X d (tF w0 f)/\(b=true->PT X d (tFT w0 (ttD f))):=⟨h,fun _=>Yx1 G h e⟩
def Zd5{f:Nat}{x:Str}{W pos:Pos}(G:Good c k Z w0 X)(hc:k.calm=true)(N:k.FN[f]?=some x)(hg:k.glob x=true)(d:W1 k es ls=true)(Y:PA X ls (tFA w0 (tes c Z es))):
  PE X (.Call (.Name x W) ls [] pos) (tF w0 (te c Z (.call f es))):=by
 let⟨g1,g2,g3⟩:=G.gl hg
 let⟨E,D,U⟩:=G.exc
 cases b:c.Γ[f]? with
 | none=>
  have h1:=(Ac.mp N).1
  have R:=Dp.mp b
  rw[G.flen] at h1
  lia
 | some C=>
  let⟨kk,fa,fd,pr,ds,y,dD,t,F,I,J,L,P,O,hD,n⟩:=G.fns hc f x C N b
  have m:∀j H Q,tF w0 (te c Z (.call f es)) j H Q->tFA w0 (tes c Z es) j H fun B H1=>spF X.K t (B++y) H1 Q E:=by
   rintro j H Q ⟨w,i,M,A,S,g,a⟩
   refine⟨w,i,M,_,S,g,fun B s p T q V u v=>?_⟩
   have v:C p T A Z:=by
    have:=v
    simp only[b] at this
    show this
   have o:s.K=X.K:=by rw[q.K,S.K,G.eK]
   show⟨s,p++dD,T,A,Z,o,rfl,V,u.append (hD s o),n _ _ _ _ v,a.ext q,fun z dd H' hx=>U z dd H' (Fw (S.ext.trans q) hx)⟩
  cases ls with
  | nil=>
   refine PE.imp (Y25 F I g1 J L P O D g2) fun j H Q h=>?_
   have R:=m j H Q h
   let⟨w,i,M,A,S,g,a⟩:=R
   cases es with
   | nil=>
    have:=a [] w [] M (Ext.refl w) S.rs (RDs.nil w) g
    rw[S.heap] at this
    show this
   | cons e r=>show absurd d Bf9
  | cons l ls=>
   cases es with
   | nil=>show absurd d Bf9
   | cons e r=>
    change (_&&_)=true at d
    simp only[Bz9] at d
    show PE.imp (Yg5 F I g1 J L P O D Y g2 (Zs d.1.2) (Tn (X9 r ls d.2))) m
def te_var{i:Nat}{a:DEnv}:te c Z (.var i) a M Q=(match a[i]? with | some (some d)=>Q d M | _=>False):=rfl
def te_glb{g:Nat}{a:DEnv}:te c Z (.glb g) a M Q=(match c.G[g]? with | some d=>Q d M | none=>False):=rfl
set_option tactic.hygienic true in
def Zk6{i:Nat}{x:Str}(G:Good c k Z w0 X)(o:k.N[i]?=some x)(n:k.vis x=true):PE X (.Name x pos) (tF w0 (te c Z (.var i))):=by
 let⟨j,h,f⟩:=G.vis n
 refine PE.imp (Zj7 (i:=i) (by rw[G.N];show o) j h f) fun p H Q zz80=>?_
 let⟨w,b,M,q,S,g,a⟩:=zz80
 rw[te_var] at g
 split at g
 .rename_i d e
  let⟨v,m,l⟩:=S.env.2 i d e
  have:=a v w d M (Ext.refl w) S.rs l g
  rw[S.heap] at this
  show⟨v,m,this⟩
 .exact g.elim
def Zl7{g:Nat}{x:Str}(G:Good c k Z w0 X)(p:k.GN[g]?=some x)(o:k.glob x=true):PE X (.Name x pos) (tF w0 (te c Z (.glb g))):=by
 let⟨g1,g2,g3⟩:=G.gl o
 cases e:c.G[g]? with
 | none=>
  refine PE.imp (t:=fun _ _ _=>False) (fun _ _ _ _ _ _ h=>h.elim) fun i H Q zz81=>?_
  let⟨w,b,M,f,S,q,a⟩:=zz81
  rw[te_glb] at q
  rw[e] at q
  show q
 | some d=>
  let⟨v,u,m,l,j⟩:=G.glb g x d p e
  refine PE.imp (Yj4 g1 m l g2) fun i H Q h=>Oz (d:=d) (fun w n=>j w (by rw[n,G.eK])) ?_
  let⟨w,b,M,f,S,q,a⟩:=h
  rw[te_glb] at q
  rw[e] at q
  show⟨w,b,M,f,S,q,a⟩
def Yy9{l:Expr}(a:W1 k es (l::ls)=true):starEach (l::ls) X.env=(false,eval l X.env)::starEach ls X.env/\(backTo pos (starEach ls X.env)).any (·.1)=false:=by
 cases es with
 | nil=>show absurd a Bf9
 | cons e r=>
  change (_&&_)=true at a
  simp only[Bz9] at a
  show⟨Zs a.1.2,Tn (X9 r ls a.2)⟩
def Y05{b:Bf}{x:Str}{z pos:Pos}{l:Expr}(G:Good c k Z w0 X)(C:k.calm=true\/Sc b=true)(A:x=(bfOf b).1)(B:k.glob x=true)(D:x∈k.BN)(h:W1 k es (l::ls)=true)(t:PA X (l::ls) (tFA w0 (tes c Z es))):
  PE X (.Call (.Name x z) (l::ls) [] pos) (tF w0 (te c Z (.bf b es))):=by
 let⟨g1,g2,g3⟩:=G.gl B
 have u:=G.blt x D
 have j:bootBuiltins x=some (bfOf b).2:=by rw[A];show Y90 b
 have d:=Zw8 (w0:=w0) G.eK b (C.imp G.calm id)
 have i:starEach (l::ls) X.env=(false,eval l X.env)::starEach ls X.env/\(backTo pos (starEach ls X.env)).any (·.1)=false:=by
  cases es with
  | nil=>left
  | cons e r=>
   change (_&&_)=true at h
   simp only[Bz9] at h
   show⟨Zs h.1.2,Tn (X9 r ls h.2)⟩
 have f:∀n H Q,tF w0 (te c Z (.bf b es)) n H Q->tCB (rC w0 (bfD w0.K b)) (tFA w0 (tes c Z es)) n H Q:=by
  rintro n H Q ⟨w,m,M,F,S,g,a⟩
  refine⟨w,m,M,_,S,g,fun J v E I q y o s=>?_⟩
  rw[<-G.wK] at s
  show⟨v,I,E,F,rfl,by rw[q.K,S.K],y,o,s,a.ext q⟩
 cases p:(bfOf b).2 with
 | builtin id=>
  rw[p] at j d
  show PE.imp (Y01 d g1 u j t g3 g2 i.1 i.2) f
 | type T=>
  rw[p] at j d
  show PE.imp (Qi d g1 u j t g3 g2 i.1 i.2) f
 | _=>cases b<;>cases p
def Zt5{m:Mt}{l:Expr}{J t:Pos}(G:Good c k Z w0 X)(I:Zf5 l=true)(F:(J.endLine==t.line)=true)(T:ls.length<30)(s:W1 k es ls=true)(D:PE X l (tF w0 (te c Z o)))(R:PA X ls (tFA w0 (tes c Z es))):
  PE X (.Call (.Attribute l (mtN m) J) ls [] t) (tF w0 (te c Z (.mt m o es))):=by
 have i:=Y12 (w0:=w0) G.eK G.units m
 cases ls with
 | nil=>
  refine PE.imp (Yu6 (Yl0 m) (Zi8 m) (Yl5 m) i D (Gq I) F) fun L H Q zz82=>?_
  let⟨w,f,M,B,S,g,a⟩:=zz82
  refine Zy S g fun x q A C d n j p=>?_
  have h:=Y80 n j p.1
  rw[d.K,S.K,<-G.eK] at h
  refine⟨h,?_⟩
  cases es with
  | nil=>show⟨q,C,A,[],B,rfl,by rw[d.K,S.K],n,j,RDs.nil q,p.2,a.ext d⟩
  | cons e r=>show absurd s Bf9
 | cons y ls=>
  cases es with
  | nil=>show absurd s Bf9
  | cons e r=>
   have b:=s
   change (_&&_)=true at b
   simp only[Bz9] at b
   have z:((backTo t (starEach (y::ls) X.env)).all (fun x=> !x.1)&&(backToKw t (keywordEach [] X.env)).all (fun x=>x.1.isSome)
     &&decide ((y::ls).length+([]:List Keyword).length+(if ([]:List Keyword).isEmpty then 0 else 1)<30))=true:=by
    rw[Zx4 (X9 _ _ s)]
    show(true&&true&&decide ((y::ls).length+0+0<30))=true
    simpa using T
   refine PE.imp (Yx4 (Yl0 m) (Zi8 m) (Yl5 m) i D R (Gq I) z F (Zs b.1.2) (Tn (X9 r ls b.2))) fun L H Q zz83=>?_
   let⟨w,f,M,B,S,g,a⟩:=zz83
   refine Zy S g fun x q A C d n j p=>?_
   have h:=Y80 n j p.1
   rw[d.K,S.K,<-G.eK] at h
   refine⟨h,q,f,C,_,S.next d n,p.2,fun W N U V u O v P=>?_⟩
   show⟨N,V,A,U,B,rfl,by rw[u.K,d.K,S.K],O,j.ext u,v,P,a.ext (d.trans u)⟩
def Zy6{a:E}{lo hi:Eo}{l:Expr}{x y:Option Expr}{u pos:Pos}(G:Good c k Z w0 X)(v:PE X l (tF w0 (te c Z a)))(A:PO X x (tFO w0 (teo c Z lo)))(z:PO X y (tFO w0 (teo c Z hi))):
  PE X (.Subscript l (.Slice x y none u) pos) (tF w0 (te c Z (.sl a lo hi))):=by
 refine PE.imp (Z16 (Zw1 (w0:=w0) G.eK) v A z) fun L H Q zz84=>?_
 let⟨w,b,M,D,S,g,C⟩:=zz84
 refine Zy S g fun x n B J e i o t=>?_
 refine⟨n,b,J,_,S.next e i,t,fun l m I d q s=>?_⟩
 refine⟨m,b,I,_,(S.next e i).next d q,s,fun h j F f p r=>?_⟩
 show⟨j,F,B,D,rfl,by rw[f.K,d.K,e.K,S.K],p,o.ext (d.trans f),r,C.ext ((e.trans d).trans f)⟩
def Zf6{a b:E}{l r:Expr}(G:Good c k Z w0 X)(U:PE X l (tF w0 (te c Z a)))(T:PE X r (tF w0 (te c Z b))):PE X (.Dict [some l] [r] pos) (tF w0 (te c Z (.dct a b))):=by
 refine PE.imp (Yh0 (Zu3 U T Yi9) rfl rfl (by simp) (by simp)) fun σ H Q zz85=>?_
 let⟨w,A,M,QD,S,g,aq⟩:=zz85
 intro p z
 rw[<-S.heap] at z
 let⟨j,t,B⟩:=Rp (xs:=[]) (vs:=[]) S.rs z (by unfold RKV;rfl)
 have s:upd H p (.dK [])=(w.push p (.dK [])).H:=by rw[<-S.heap];rfl
 have f:(w.push p (.dK [])).μ M.length=p:=by
  show(if M.length=w.n then p else w.μ M.length)=p
  rw[nh S.rs.len.symm]
 have q:M.length< (w.push p (.dK [])).n:=by change M.length<w.n+1;rw[S.rs.len];lia
 rw[s]
 refine Zy (S.next j t) g fun x w1 dx M1 i L J O=>?_
 refine Zy ((S.next j t).next i L) O fun y d dy M2 h v I N=>?_
 let⟨e,e1,Y,W⟩:=N
 let⟨P,C,o,D⟩:=v.dict Y
 rw[(i.trans h).μ _ q,f] at o
 have V:C=[]:=by have:=D.length;show Ig.mp ↥this
 subst V
 cases Qq e1 (J.ext h)
 refine⟨o,[(e,y)],rfl,by simp,?_⟩
 have m:d.H (d.μ M.length)=some (.dK []):=by rw[(i.trans h).μ _ q,f];show o
 let⟨u,F⟩:=Sm (vs:=[(e,y)]) (xs:=[(e,dy)]) v P m (by
  have:=(show RKV d [] [] by unfold RKV;rfl).put (k:=e) I
  show this)
 have K:RD (d.alloc (d.μ M.length) (.dK [(e,y)])) (.ref M.length) (.ref p):=(B.ext (i.trans h)).ext u
 have:=aq _ _ _ _ (((j.trans i).trans h).trans u) F K W
 have R:(d.alloc (d.μ M.length) (.dK [(e,y)])).H=upd d.H p (.dK (N2 [] [(e,y)])):=by
  change upd d.H (d.μ M.length) (.dK [(e,y)])=_
  rw[(i.trans h).μ _ q,f]
  rfl
 rw[<-R]
 show this
def sl_W:SlR X (fun x lo hi H Q=>∃a xs,x= .ref a/\SqT X.K H a xs/\((HT.sIx xs.length 0 lo=0/\HT.sIx xs.length xs.length hi=xs.length)->Q x H)/\∀p,H p=none->Q (.ref p) (upd H p (.tup (cutV xs lo hi)))):=by
 intro b s e H x v g f lo hi i Q I j o m l h
 let⟨a,xs,rfl,n,r,q⟩:=h
 by_cases d:HT.sIx xs.length 0 lo=0/\HT.sIx xs.length xs.length hi=xs.length
 .exact Ya7 b s e H _ v g f lo hi i Q I j o m l ⟨a,xs,rfl,n,d,r d⟩
 .exact Y44 b s e H _ v g f lo hi i Q I j o m l ⟨a,xs,rfl,n,d,q⟩
def Zm2{a:E}{lo hi:Eo}{l:Expr}{x y:Option Expr}{P pos:Pos}(G:Good c k Z w0 X)(T:PE X l (tF w0 (te c Z a)))(h:PO X x (tFO w0 (teo c Z lo)))(U:PO X y (tFO w0 (teo c Z hi))):
  PE X (.Subscript l (.Slice x y none P) pos) (tF w0 (te c Z (.slW a lo hi))):=by
 refine PE.imp (Z16 sl_W T h U) fun σ H Q zz86=>?_
 let⟨w,b,M,QD,S,g,u⟩:=zz86
 refine Zy S g fun x D dx M1 j K I O=>?_
 have v:=S.next j K
 refine⟨D,b,M1,_,v,O,fun s C Y f J N=>?_⟩
 have W:=v.next f J
 refine⟨C,b,Y,_,W,N,fun h w3 M3 i r L=>?_⟩
 let⟨o,rfl,m⟩:=Pd L
 have d:=(I.ext f).ext i
 let⟨p,F,rfl,V,n⟩:=Yb.mp d
 refine⟨p,F,rfl,.of V,fun t=>?_,fun q R=>?_⟩
 .have e:cutD o s h=o:=by
   unfold cutD
   rw[<-n.length,t.1,t.2,List.drop_zero,Nat.sub_zero,n.length,Lg]
  rw[e] at m
  show u _ _ _ _ ((j.trans f).trans i) r d m
 .let⟨B,A,z⟩:=Vh r R (B1 (lo:=s) (hi:=h) n)
  show u _ _ _ _ (((j.trans f).trans i).trans B) A z m
def Z77{a:E}{x y:Str}{V F h D:Pos}{l:Expr}(G:Good c k Z w0 X)(hc:k.calm=true)(hx:x=("list":Str))(Y:y=("reversed":Str))(hg:k.glob x=true)(s:k.glob y=true)(hB:x∈k.BN)(u:y∈k.BN)(L:noStar l=true)(W:PE X l (tF w0 (te c Z a))):
  PE X (.Call (.Name x V) [.Call (.Name y F) [l] [] D] [] h) (tF w0 (te c Z (.lrev a))):=by
 let⟨g1,g2,g3⟩:=G.gl hg
 let⟨A,z,v⟩:=G.gl s
 have i:=Qi (p:=F) (pos:=D) (Y19 (X:=X)) A (G.blt _ u) (by rw[Y];show Jx) (Qn W Gz (Zs L)) v z (Zs L) rfl
 refine PE.imp (Qi (Zb7 (X:=X) (G.calm hc)) g1 (G.blt _ hB) (by rw[hx];show boot_list) (Qn i Gz rfl) g3 g2 rfl rfl) fun σ H Q zz87=>?_
 let⟨w,N,M,QD,S,g,aq⟩:=zz87
 refine Zy S g fun x f dx M1 B C U h=>?_
 let⟨n,rfl,h⟩:=Yw h
 let⟨hn,rfl⟩:=Zk.mp U
 let⟨xs,e1,q⟩:=h
 have hK:f.K=X.K:=by rw[B.K,S.K,G.eK]
 let⟨_,m,d,O,_⟩:=C.listL e1
 rw[hK] at d
 refine⟨_,m,rfl,d,fun p J j=>?_⟩
 refine⟨p,f.μ n,m,rfl,Zl,?_,fun t I=>?_⟩
 .rcases d with(d | ⟨o,d⟩) | d
  .exact .inl (.inl (by rw[Z6 j];show d))
  .exact .inl (.inr ⟨o,by rw[Z6 j];show d⟩)
  .exact .inr d
 .have hd:del (upd f.H p (.ext (Z03 X.s₀⁻¹ p (f.μ n) m.length))) p=f.H:=by
   funext b
   unfold del
   split
   .rename_i e;rw[e];show J.symm
   .rename_i e;show Z6 e
  have r:f.H t=none:=by
   by_cases e:t=p
   .rw[e];show J
   .rw[Z6 e] at I;show I
  rw[hd]
  let⟨T,R,P⟩:=Wo C r O.reverse
  show aq _ _ _ _ (B.trans T) R P q
def Zt7{a b:E}{l r:Expr}(G:Good c k Z w0 X)(hn:Cy r=true)(ha:PE X l (tF w0 (te c Z a)))(hb:PE X r (tF w0 (te c Z b))):PE X (.Subscript l r pos) (tF w0 (te c Z (.ix a b))):=by
 have pl:Zf9 r:=by
  intro o i
  cases r<;>first | rfl | cases hn
 refine PE.imp (X07 (Zy9 (w0:=w0) G.eK G.units) ha hb pl) fun σ H Q zz88=>?_
 let⟨w,σD,M,QD,S,g,aq⟩:=zz88
 refine Zy S g fun x w1 dx M1 x1 r1 rx q1=>?_
 refine Zy (S.next x1 r1) q1 fun y w2 dy M2 x2 r2 ry q2=>?_
 show⟨w2,M2,dx,dy,_,rfl,by rw[x2.K,x1.K,S.K],r2,rx.ext x2,ry,q2,fun d v hq hr=>aq v w2 d M2 (x1.trans x2) r2 hr hq⟩
def O2{K:LQ}{el t iter:Expr}(G:Good c k Z w0 X)(V:k.calm=true)(ho:Tz k.sc k.N r O scope=true)(p0:Zb2 iter=true)(hn:r.Nodup)
  (hi:PI X t iter (iF w0 (tit c Z U))) (ht:O1 {k with N:=r,sc:=Xy scope k.sc,cells:=false,own:=B2 scope,tries:=false,raises:=[]} K t=true) (hd:chkC {k with N:=r,sc:=Xy scope k.sc,cells:=false,own:=B2 scope,tries:=false,raises:=[]} o j=true) (he:chkE {k with N:=r,sc:=Xy scope k.sc,cells:=false,own:=B2 scope,tries:=false,raises:=[]} e el=true) (r0:Y70 c e) (q0:Y43 c o):
  PE X (.ListComp el [⟨t,iter,j,0⟩] scope pos) (tF w0 (te c Z (.comp r O K U o e)))/\
  ∀(i:Nat) (x:Str) (px n:Pos),X.N[i]?=some x->X.env.scope.names.lookup x=some .local->swapsWith (.ListComp el [⟨t,iter,j,0⟩] scope pos) (some (.Name x px)) n.line X.env=pure true->
   PS X (.Assign [.Name x px] (.ListComp el [⟨t,iter,j,0⟩] scope pos) n) (fun R l H=>tF w0 (te c Z (.comp r O K U o e)) l H fun v H1=>R.nx (l.set i (some v)) H1):=by
 have F:Tz X.env.scope X.N r O scope=true:=by rw[G.sc,G.N];show ho
 have hf:∀x,foldedSetIterable iter X.env x=pure x:=by
  intro x
  cases iter<;>first | rfl | cases p0
 have hg:=fun z C u f s H=>(Good.block G V (scope:=scope) hn z C u f s H).tgt K t ht
 have I:=fun z C u f s H=>(r0 _ _ _ _ el (Good.block G V (scope:=scope) hn z C u f s H) he).1
 have T:∀l H Q,tF w0 (te c Z (.comp r O K U o e)) l H Q->iF w0 (tit c Z U) l H fun J H1=>∀p,H1 p=none->∃W:Nat->Nat->L2.St->Hp->Prop,(∃m,W 0 m (Sb O l) (upd H1 p (.lst [])))/\
   ∀i m A Hc,W i m A Hc->(J.stop i Hc/\Q (.ref p) Hc)\/(J.go i Hc/\∀x H',J.yld i Hc x H'->gF w0 K x A H' fun D H2=>tFT w0 (tcd c noX o) D H2 fun b H3=>if b=true then tF w0 (te c noX e) D H3 fun y H4=>∃Y,H4 p=some (.lst Y)/\Y.length<sizeLine/\
    ∃m',m'<m/\W (i+1) m' D (upd H4 p (.lst (Y++[y]))) else ∃m',m'<m/\W (i+1) m' D H3):=by
  rintro l H Q ⟨w,B,M,QD,S,g,a⟩
  refine⟨w,B,M,_,S,g,fun J w1 y0 xs M1 x1 R1 jk q1=>?_⟩
  show Y13 (S.ext.trans x1) rfl R1 (Yf9 (S.env.ext x1)) jk q1 fun v w2 d M2 x2 r2 s0 zz89=>by let⟨e2,q2⟩:=zz89;show a v w2 d M2 (x1.trans x2) r2 s0 (by rw[e2];show q2)
 have v0:∀{l:L2.St} {H:Hp} {P:Bool->Hp->Prop},o= .no->tFT w0 (tcd c noX o) l H P->P true H:=by
  intro l H P e h
  subst e
  let⟨w,B,M,QD,S,g,a⟩:=h
  have:=a true w M (Ext.refl w) S.rs g
  rw[S.heap] at this
  show this
 cases j with
 | nil=>
  have o0:o= .no:=by
   cases o with
   | no=>rfl
   | yes e'=>show absurd hd Bf9
  have L:∀l H Q,tF w0 (te c Z (.comp r O K U o e)) l H Q->Zn6 O (iF w0 (tit c Z U)) (gF w0 K) (tF w0 (te c noX e)) l H Q:=by
   intro l H Q h
   let⟨w,B,M,QD,S,g,a⟩:=T l H Q h
   refine⟨w,B,M,QD,S,g,fun J w' y0 xs M' x' r' jk q p hp=>?_⟩
   let⟨W,w1,w2⟩:=a J w' y0 xs M' x' r' jk q p hp
   refine⟨W,w1,fun i m A Hc hW=>(w2 i m A Hc hW).imp id fun⟨z1,z2⟩=>⟨z1,fun x H' hy=>?_⟩⟩
   let⟨v1,v2,v3,v4,v5,v6,v7,v8,v9⟩:=z2 x H' hy
   refine⟨v1,v2,v3,v4,v5,v6,v7,v8,fun t0 z0 en q'=>?_⟩
   have:=v0 o0 (v9 t0 z0 en q')
   rw[nh rfl] at this
   show this
  show⟨PE.imp (Y04 (G.calm V) F hi hg I hf) L,fun i x px n h1 h2 h3=>PS.imp (Zw0 (G.calm V) F G.nd h1 h2 hi hg I h3 hf) fun R l H h=>L l H _ h⟩
 | cons x0 j=>
  have hq:∀z C u f s H,∃x,x0::j=[x]/\PT (cxC X r scope z C u f s H) x (tFT w0 (tcd c noX o)):=fun z C u f s H=>by
   rcases q0.2 _ _ _ _ (x0::j) (Good.block G V (scope:=scope) hn z C u f s H) hd with h | ⟨h,_⟩
   .exact h
   .cases h
  have e0:j=[]:=by
   cases o with
   | no=>show absurd hd Bf9
   | yes e'=>
    cases j with
    | nil=>rfl
    | cons _ _=>show absurd hd Bf9
  subst e0
  have u0:∀z C u f s H,PT (cxC X r scope z C u f s H) x0 (tFT w0 (tcd c noX o)):=fun z C u f s H=>by
   let⟨x,h1,h2⟩:=hq z C u f s H
   cases h1
   show h2
  show⟨PE.imp (Zx7 (G.calm V) F hi hg u0 I hf) T,fun i x px n h1 h2 h3=>PS.imp (Zy1 (G.calm V) F G.nd h1 h2 hi hg u0 I h3 hf) fun R l H h=>T l H _ h⟩
end
section
variable{c:Cfg}{k:Ck}{Z:DX}{w0:Vw}{X:Cx}
def te_cmp_bl{op:Cm}{a b:E}(f:DEnv)(M:Z2)(QD:DK)(h:te c Z (.cmp op a b) f M QD):te c Z (.cmp op a b) f M fun d M'=>(∃b,d= .bl b)/\QD d M':=by
 have e:(fun(d:D) (M':Z2)=>QD d M')=QD:=rfl
 change te c Z a f M fun x i=>te c Z b f i fun y g=>cmD g op x y fun r=>(∃b,D.bl r= .bl b)/\QD (.bl r) g
 have h:te c Z a f M (fun x i=>te c Z b f i fun y g=>cmD g op x y fun r=>QD (.bl r) g):=h
 have:(fun(x:D) (i:Z2)=>te c Z b f i fun y g=>cmD g op x y fun r=>QD (.bl r) g)=fun x i=>te c Z b f i fun y g=>cmD g op x y fun r=>(∃b,D.bl r= .bl b)/\QD (.bl r) g:=by
  funext x i
  congr 1
  funext y g
  congr 1
  funext r
  show propext ⟨fun h=>⟨⟨r,rfl⟩,h⟩,fun h=>h.2⟩
 rw[this] at h
 show h
def Yd9{a b:Expr}{m l:TE}(u:PE X a m)(t:PE X (.BoolOp .And (b::e) pos) l):PE X (.BoolOp .And (a::b::e) pos) (fun f H Q=>m f H fun x i=>∃z,TruV X.K x i z/\if z=true then l f i Q else Q x i):=by
 intro d s f H Q I h
 refine BoolOp_and (thn (u d s f H _ I h) fun v q zz91=>?_)
 let⟨x,i,w,n,r⟩:=zz91
 refine thn (Bw d q f i x v (fun z g=>if z=true then l f g Q else Q x g) w n r) fun z p zz92=>?_
 let⟨g,o,j⟩:=zz92
 cases z with
 | true=>show t d p f g Q o (by rw[nh rfl] at j;show j)
 | false=>show⟨x,g,o,n,by rw[ng Bf9] at j;show j⟩
def Yl7{a b:Expr}{m l:TE}(u:PE X a m)(t:PE X (.BoolOp .Or (b::e) pos) l):PE X (.BoolOp .Or (a::b::e) pos) (fun f H Q=>m f H fun x i=>∃z,TruV X.K x i z/\if z=true then Q x i else l f i Q):=by
 intro d s f H Q I h
 refine BoolOp_or (thn (u d s f H _ I h) fun v q zz93=>?_)
 let⟨x,i,w,n,r⟩:=zz93
 refine thn (Bw d q f i x v (fun z g=>if z=true then Q x g else l f g Q) w n r) fun z p zz94=>?_
 let⟨g,o,j⟩:=zz94
 cases z with
 | false=>show t d p f g Q o (by rw[ng Bf9] at j;show j)
 | true=>show⟨x,g,o,n,by rw[nh rfl] at j;show j⟩
def C3{n:Nat}(b:Z7 M n=some xs)(a:Z9 M n=some ys):False:=by
 unfold Z7 at b
 unfold Z9 at a
 cases h:M[n]? with
 | none=>rw[h] at a;cases a
 | some c=>rw[h] at b a;cases c<;>simp at b a
def Z45{x:D}{k:Bool}{P:Bool->Prop}:truD M x (fun b=>if b=k then A else truD M x P)=truD M x (fun b=>if b=k then A else P b):=by
 cases x with
 | str y=>
  apply propext
  show(y.length<=sizeLine/\if ((y.length:Int) !=0)=k then A else(y.length<=sizeLine/\P ((y.length:Int) !=0)))↔(y.length<=sizeLine/\if ((y.length:Int) !=0)=k then A else P ((y.length:Int) !=0))
  split<;>simp (config:={contextual:=true})
 | ref n=>
  apply propext
  have a:∀Q:Bool->Prop,truD M (.ref n) Q↔(∃d,Z7 M n=some d/\Q (!d.isEmpty))\/(∃d,Z9 M n=some d/\Q (!d.isEmpty)):=fun Q=>Mf
  constructor
  .intro h
   rcases(a _).mp h with⟨d,g,f⟩ | ⟨d,g,f⟩
   .refine(a _).mpr (.inl ⟨d,g,?_⟩)
    split at f
    .rename_i e;rw[nh e];show f
    .rename_i e
     rw[ng e]
     rcases(a _).mp f with⟨j,g1,g2⟩ | ⟨j,g1,g2⟩
     .rw[g] at g1;cases g1;show g2
     .exact(C3 g g1).elim
   .refine(a _).mpr (.inr ⟨d,g,?_⟩)
    split at f
    .rename_i e;rw[nh e];show f
    .rename_i e
     rw[ng e]
     rcases(a _).mp f with⟨j,g1,g2⟩ | ⟨j,g1,g2⟩
     .exact(C3 g1 g).elim
     .rw[g] at g1;cases g1;show g2
  .intro h
   rcases(a _).mp h with⟨d,g,f⟩ | ⟨d,g,f⟩
   .refine(a _).mpr (.inl ⟨d,g,?_⟩)
    split at f
    .rename_i e;rw[nh e];show f
    .rename_i e;rw[ng e];show(a _).mpr (.inl ⟨d,g,f⟩)
   .refine(a _).mpr (.inr ⟨d,g,?_⟩)
    split at f
    .rename_i e;rw[nh e];show f
    .rename_i e;rw[ng e];show(a _).mpr (.inr ⟨d,g,f⟩)
 | non=>rfl
 | bl b=>rfl
 | int i=>rfl
 | tup d=>rfl
 | _=>rfl
def te_bop_tt{e f:E}{d:DEnv}(h:ttD (tbop c Z true (.cons e (.cons f r))) d M QD):
  ttD (te c Z e) d M fun z a=>if z=true then ttD (tbop c Z true (.cons f r)) d a QD else QD false a:=by
 have i:(fun(x:D) (a:Z2)=>truD a x fun b=>if b=true then ttD (tbop c Z true (.cons f r)) d a QD else truD a x fun b=>QD b a)=
   fun x a=>truD a x fun z=>if z=true then ttD (tbop c Z true (.cons f r)) d a QD else QD false a:=by
  funext x a
  rw[Z45]
  congr 1
  funext b
  cases b<;>rfl
 have g:te c Z e d M fun(x:D) (a:Z2)=>truD a x fun b=>if b=true then ttD (tbop c Z true (.cons f r)) d a QD else truD a x fun b=>QD b a:=h
 rw[i] at g
 show g
def te_bop_ff{e f:E}{d:DEnv}(h:ttD (tbop c Z false (.cons e (.cons f r))) d M QD):
  ttD (te c Z e) d M fun z a=>if z=true then QD true a else ttD (tbop c Z false (.cons f r)) d a QD:=by
 have i:(fun(x:D) (a:Z2)=>truD a x fun b=>if b=false then ttD (tbop c Z false (.cons f r)) d a QD else truD a x fun b=>QD b a)=
   fun x a=>truD a x fun z=>if z=true then QD true a else ttD (tbop c Z false (.cons f r)) d a QD:=by
  funext x a
  rw[Z45]
  congr 1
  funext b
  cases b<;>rfl
 have g:te c Z e d M fun(x:D) (a:Z2)=>truD a x fun b=>if b=false then ttD (tbop c Z false (.cons f r)) d a QD else truD a x fun b=>QD b a:=h
 rw[i] at g
 show g
end
def Zd7{k:Ck}{a:E}(h:chkE k (.lrev a) j=true):∃x y l f e d c,j= .Call (.Name x f) [.Call (.Name y e) [l] [] c] [] d/\
  (k.calm&&x==("list":Str)&&y==("reversed":Str)&&k.glob x&&k.glob y&&k.BN.contains x&&k.BN.contains y&&noStar l&&chkE k a l)=true:=by
 cases j with
 | Call p n g d=>
  cases p with
  | Name x f=>
   cases n with
   | nil=>left
   | cons q n=>
   cases q with
   | Call i m b c=>
    cases i with
    | Name y e=>
     cases m with
     | nil=>left
     | cons l o=>
     cases o with
     | cons _ _=>left
     | nil=>
     cases b with
     | cons _ _=>left
     | nil=>
     cases n with
     | cons _ _=>left
     | nil=>
     cases g with
     | cons _ _=>left
     | nil=>show⟨x,y,l,f,e,d,c,rfl,h⟩
    | _=>left
   | _=>left
  | _=>left
 | _=>left
def Ze8{k:Ck}{a:Expr}(h:Zv7 k (.zip es) a=true):∃l ls p q,a= .Call (.Name "zip" p) (l::ls) [] q/\(k.glob "zip"&&k.BN.contains "zip"&&W1 k es (l::ls))=true:=by
 let⟨i,ls,c,b,rfl,h⟩:=Yi h
 let⟨x,g,rfl,h⟩:=Zn h
 let⟨rfl,h⟩:=Yq h
 let⟨l,ls,rfl,h⟩:=Ba h
 change (_&&_)=true at h
 simp only[Bz9,beq_iff_eq] at h
 let⟨⟨⟨rfl,f⟩,e⟩,d⟩:=h
 refine⟨l,ls,_,_,rfl,?_⟩
 simp only[Bz9]
 show⟨⟨f,e⟩,d⟩
mutual
theorem Zm(c:Cfg):∀e:E,Y70 c e
 | .var i,k,Z,d,X,u,G,h=>by
  let⟨x,n,rfl,h⟩:=Zn h
  change (_&&_)=true at h
  simp only[Bz9,beq_iff_eq] at h
  show both G (Zk6 G h.1 h.2) fun _=>rfl
 | .int i,k,Z,d,X,u,G,h=>by
  let⟨v,j,n,rfl,h⟩:=Xs h
  cases v with
  | int m=>
   have h:(i==m)=true:=h
   simp only[beq_iff_eq] at h
   subst h
   show both G (PE.imp Yt3 fun C H Q q=>Oz (fun _ _=>Zf.mpr rfl) q) fun _=>rfl
  | _=>left
 | .bl i,k,Z,d,X,u,G,h=>by
  let⟨v,j,n,rfl,h⟩:=Xs h
  cases v with
  | bool m=>
   have h:(i==m)=true:=h
   simp only[beq_iff_eq] at h
   subst h
   show both G (PE.imp Yz9 fun C H Q q=>Oz (fun _ _=>Xb.mpr rfl) q) fun _=>rfl
  | _=>left
 | .non,k,Z,d,X,u,G,h=>by
  let⟨v,j,n,rfl,h⟩:=Xs h
  cases v with
  | none=>show both G (PE.imp Yo8 fun C H Q q=>Oz (fun _ _=>Zw.mpr rfl) q) fun _=>rfl
  | _=>left
 | .str i,k,Z,d,X,u,G,h=>by
  let⟨v,j,n,rfl,h⟩:=Xs h
  cases v with
  | str m=>
   have h:(i==m)=true:=h
   simp only[beq_iff_eq] at h
   subst h
   show both G (PE.imp Ym9 fun C H Q q=>Oz (fun _ _=>Zq.mpr rfl) q) fun _=>rfl
  | _=>left
 | .ty t,k,Z,d,X,u,G,h=>by
  let⟨x,n,rfl,h⟩:=Zn h
  change (_&&_)=true at h
  simp only[Bz9,beq_iff_eq,Hq] at h
  let⟨g1,g2,g3⟩:=G.gl h.1.2
  show both G (PE.imp (Yg3 (v:= .ty (Ym t)) g1 (G.blt x h.2) (by rw[h.1.1];show Y83 t) rfl g3 g2) fun C H Q q=>Oz (fun _ _=>Yd4.mpr rfl) q) fun _=>rfl
 | .glb g,k,Z,d,X,u,G,h=>by
  let⟨x,n,rfl,h⟩:=Zn h
  change (_&&_)=true at h
  simp only[Bz9,beq_iff_eq] at h
  show both G (Zl7 G h.1 h.2) fun _=>rfl
 | .bin op a b,k,Z,d,X,u,G,h=>by
  let⟨l,o,r,n,rfl,h⟩:=Zq2 h
  change (_&&_)=true at h
  simp only[Bz9,beq_iff_eq] at h
  let⟨⟨rfl,J⟩,D⟩:=h
  show both G (PE.imp (Yy0 (Zz2 (w0:=d) op) (Zm c a k Z d X l G J).1 (Zm c b k Z d X r G D).1) fun C H Q q=>Zp9 q) fun _=>rfl
 | .neg a,k,Z,d,X,u,G,h=>by
  let⟨o,l,n,rfl,h⟩:=Z56 h
  change (_&&_)=true at h
  simp only[Bz9,beq_iff_eq] at h
  let⟨rfl,J⟩:=h
  refine both G (PE.imp (Yz3 Yl9 (Zm c a k Z d X l G J).1) fun C H Q zz95=>?_) fun _=>rfl
  let⟨w,s,M,R,S,g,B⟩:=zz95
  refine Zy S g fun x w1 dx P F O rx A=>?_
  split at A
  .cases Zf.mp rx
   show⟨_,rfl,B _ w1 _ P F O (Zf.mpr rfl) A⟩
  .exact A.elim
 | .not a,k,Z,d,X,u,G,h=>by
  let⟨o,l,n,rfl,h⟩:=Z56 h
  change (_&&_)=true at h
  simp only[Bz9,beq_iff_eq] at h
  let⟨rfl,J⟩:=h
  let⟨i1,i2⟩:=Zm c a k Z d X l G J
  refine⟨PE.imp (Yb1 i1) fun C H Q ⟨w,s,M,R,S,g,B⟩=>?_,fun Y=>PT.imp (Yr3 (i2 Y)) fun C H Q ⟨w,s,M,R,S,g,B⟩=>?_⟩
  .refine Zy S g fun x w1 dx P F O rx A=>?_
   let⟨b,t1,t2⟩:=Tu (K:=X.K) (by rw[F.K,S.K,G.eK]) O rx A
   show⟨b,t1,B _ w1 _ P F O (Xb.mpr rfl) t2⟩
  .exact⟨w,s,M,fun b P=>R (!b) P,S,g,fun b w' M' x' r' q'=>B _ w' M' x' r' q'⟩
 | .cmp op a b,k,Z,d,X,u,G,h=>by
  let⟨l,os,rs,n,rfl,h⟩:=Zr4 h
  let⟨o,rfl,h⟩:=Ys h
  let⟨r,rfl,h⟩:=Ys h
  change (_&&_)=true at h
  simp only[Bz9,beq_iff_eq] at h
  let⟨⟨⟨rfl,h0⟩,J⟩,D⟩:=h
  have hm:behindInMarks (cmOf op) r=false:=by
   cases r with
   | Set L kk p=>cases op<;>first | show absurd h0 'd' | show absurd h0 Bf9 | (simp[isIn,Zb2] at h0;done) | (simp[behindInMarks,cmOf])
   | _=>rfl
  have ia:=(Zm c a k Z d X l G J).1
  have ib:=(Zm c b k Z d X r G D).1
  refine⟨PE.imp (Ya4 (Z70 (w0:=d) G.eK G.units op) ia ib hm) fun C H Q q=>E5 q,fun _=>Yj5 (PT.imp (Yg0 (Z70 (w0:=d) G.eK G.units op) ia ib hm) fun C H Q q=>E5 q) te_cmp_bl⟩
 | .bop b L,k,Z,d,X,u,G,h=>by
  let⟨o,I,n,rfl,h⟩:=Zc0 h
  change (_&&_)=true at h
  simp only[Bz9,beq_iff_eq] at h
  let⟨rfl,h⟩:=h
  cases b with
  | true=>
   let⟨i1,i2⟩:=(X8 c L k Z d X I G h).2 true n
   show⟨i1,fun Y=>(i2 Y).pt⟩
  | false=>
   let⟨i1,i2⟩:=(X8 c L k Z d X I G h).2 false n
   show⟨i1,fun Y=>(i2 Y).pt⟩
 | .ife t a b,k,Z,d,X,u,G,h=>by
  let⟨x,l,r,n,rfl,h⟩:=Zz6 h
  change (_&&_)=true at h
  simp only[Bz9] at h
  refine⟨PE.imp (Zu9 ((Zm c t k Z d X x G h.1.1.1).2 h.2) (Zm c a k Z d X l G h.1.1.2).1 (Zm c b k Z d X r G h.1.2).1) fun C H Q zz98=>?_,fun Y=>absurd Y Bf9⟩
  let⟨w,s,M,R,S,g,B⟩:=zz98
  refine⟨w,s,M,fun r P=>if r=true then te c Z a s P R else te c Z b s P R,S,g,fun r w1 P F O A=>?_⟩
  cases r with
  | true=>rw[nh rfl] at A ⊢;show Zy (S.next F O) A (B.ext F)
  | false=>rw[ng Bf9] at A ⊢;show Zy (S.next F O) A (B.ext F)
 | .lst L,k,Z,d,X,u,G,h=>by
  let⟨I,n,rfl,h⟩:=Zo0 h
  refine both G (PE.imp (Yu5 (X8 c L k Z d X I G h).1) fun C H Q zz99=>?_) fun _=>rfl
  let⟨w,s,M,R,S,g,B⟩:=zz99
  refine⟨w,s,M,_,S,g,fun vs w1 ds P F O N A=>⟨by rw[N.length];show A.1,fun p T=>?_⟩⟩
  let⟨W,V,U⟩:=Wo O T N
  show B _ _ _ _ (F.trans W) V U A.2
 | .tup L,k,Z,d,X,u,G,h=>by
  let⟨I,kk,n,rfl,h⟩:=Fj h
  refine both G (PE.imp (Yn6 (X8 c L k Z d X I G h).1) fun C H Q zz100=>?_) fun _=>rfl
  let⟨w,s,M,R,S,g,B⟩:=zz100
  refine⟨w,s,M,_,S,g,fun vs w1 ds P F O N A=>⟨by rw[N.length];show A.1,fun p T=>?_⟩⟩
  let⟨W,V,U⟩:=Vh O T N
  show B _ _ _ _ (F.trans W) V U A.2
 | .dict0,k,Z,d,X,u,G,h=>by
  let⟨ks,vs,n,rfl,h⟩:=C9 h
  let⟨rfl,h⟩:=Yq h
  let⟨rfl,_⟩:=Yq h
  refine both G (PE.imp Y00 fun C H Q zz101=>?_) fun _=>rfl
  let⟨w,s,M,R,S,g,B⟩:=zz101
  intro p T
  rw[<-S.heap] at T
  let⟨W,V,U⟩:=Rp (xs:=[]) (vs:=[]) S.rs T (by unfold RKV;rfl)
  have:=B _ _ _ _ W V U g
  rw[<-S.heap]
  show this
 | .dictT,k,Z,d,X,u,G,h=>by
  cases u with
  | Dict ks vs n=>
   match ks,vs,h with
   | [],[],h=>
    refine both G (PE.imp Zx3 fun C H Q zz102=>?_) fun _=>rfl
    let⟨w,s,M,R,S,g,B⟩:=zz102
    intro p T
    rw[<-S.heap] at T
    let⟨W,V,U⟩:=Zj5 (xs:=[]) (vs:=[]) S.rs T (by unfold RKV;rfl)
    have:=B _ _ _ _ W V U g
    rw[<-S.heap]
    show this
   | [],_::_,h=>left
   | _::_,_,h=>left
  | _=>left
 | .dct a b,k,Z,d,X,u,G,h=>by
  let⟨ks,vs,n,rfl,h⟩:=C9 h
  let⟨q,rfl,h⟩:=Ys h
  let⟨l,rfl,h⟩:=Ya9 h
  let⟨r,rfl,D⟩:=Ys h
  change (_&&_)=true at D
  rw[Bz9] at D
  show both G (Zf6 G (Zm c a k Z d X l G D.1).1 (Zm c b k Z d X r G D.2).1) fun _=>rfl
 | .ix a b,k,Z,d,X,u,G,h=>by
  let⟨l,r,n,rfl,h⟩:=Ej h
  change (_&&_)=true at h
  simp only[Bz9] at h
  show both G (Zt7 G h.1.1 (Zm c a k Z d X l G h.1.2).1 (Zm c b k Z d X r G h.2).1) fun _=>rfl
 | .sl a lo hi,k,Z,d,X,u,G,h=>by
  let⟨l,r,n,rfl,h⟩:=Ej h
  let⟨x,y,z,p2,rfl,h⟩:=Zi7 h
  let⟨rfl,h⟩:=B0 h
  change (_&&_)=true at h
  simp only[Bz9] at h
  show both G (Zy6 G (Zm c a k Z d X l G h.1.1).1 ((Nn c lo).1 k Z d X x G h.1.2) ((Nn c hi).1 k Z d X y G h.2)) fun _=>rfl
 | .slW a lo hi,k,Z,d,X,u,G,h=>by
  cases u with
  | Subscript l r n=>
   cases r with
   | Slice x y z p2=>
    cases z with
    | none=>
     change (_&&_)=true at h
     simp only[Bz9] at h
     show both G (Zm2 G (Zm c a k Z d X l G h.1.1).1 ((Nn c lo).1 k Z d X x G h.1.2) ((Nn c hi).1 k Z d X y G h.2)) fun _=>rfl
    | some _=>left
   | _=>left
  | _=>left
 | .lrev a,k,Z,d,X,u,G,h=>by
  let⟨x,y,l,p1,p2,A,q2,rfl,hs⟩:=Zd7 h
  simp only[Bz9,beq_iff_eq,Hq] at hs
  let⟨⟨⟨⟨⟨⟨⟨⟨J,D⟩,h3⟩,h4⟩,h5⟩,h6⟩,h7⟩,h8⟩,h9⟩:=hs
  show both G (Z77 G J D h3 h4 h5 h6 h7 h8 (Zm c a k Z d X l G h9).1) fun _=>rfl
 | .call f L,k,Z,d,X,u,G,h=>by
  let⟨fn,I,z0,n,rfl,h⟩:=Yi h
  let⟨x,np,rfl,h⟩:=Zn h
  let⟨rfl,h⟩:=Yq h
  change (_&&_)=true at h
  simp only[Bz9,beq_iff_eq] at h
  show both G (Zd5 G h.1.1.1 h.1.1.2 h.1.2 h.2 (X8 c L k Z d X I G h.2).1) fun _=>rfl
 | .bf b L,k,Z,d,X,u,G,h=>by
  let⟨fn,I,z0,n,rfl,h⟩:=Yi h
  let⟨x,np,rfl,h⟩:=Zn h
  let⟨rfl,h⟩:=Yq h
  let⟨l,I,rfl,h⟩:=Ba h
  change (_&&_)=true at h
  simp only[Bz9,beq_iff_eq,Bool.or_eq_true,Hq] at h
  show both G (Y05 G h.1.1.1.1 h.1.1.1.2 h.1.1.2 h.1.2 h.2 (X8 c L k Z d X (l::I) G h.2).1) fun _=>rfl
 | .mt m o L,k,Z,d,X,u,G,h=>by
  let⟨fn,I,z0,n,rfl,h⟩:=Yi h
  let⟨l,nm,ap,rfl,h⟩:=Pt h
  let⟨rfl,h⟩:=Yq h
  change (_&&_)=true at h
  simp only[Bz9,beq_iff_eq,decide_eq_true_eq] at h
  let⟨⟨⟨⟨⟨rfl,J⟩,D⟩,h3⟩,h4⟩,h5⟩:=h
  show both G (Zt5 G J (by rw[D];simp) h3 h5 (Zm c o k Z d X l G h4).1 (X8 c L k Z d X I G h5).1) fun _=>rfl
 | .comp N' js tg it cd e,k,Z,d,X,u,G,h=>by
  let⟨el,v0,x0,n,rfl,h⟩:=Z08 h
  let⟨g,rfl,h⟩:=Ys h
  let⟨t,y0,u0,as⟩:=g
  let⟨rfl,h⟩:=Zh2 h
  change (_&&_)=true at h
  simp only[Bz9,decide_eq_true_eq] at h
  let⟨⟨⟨⟨⟨⟨⟨⟨J,D⟩,h3⟩,h4⟩,h5⟩,h6⟩,h7⟩,h8⟩,h9⟩:=h
  show both G (O2 G J D h3 h5 (Zj3 c it k Z d X t y0 G h4 h9) h6 h7 h8 (Zm c e) (Nn c cd)).1 fun _=>rfl
theorem X8(c:Cfg):∀es:Es,Yf7 c es
 | .nil,k,Z,V,X,E,G,h=>by
  cases E with
  | nil=>
   refine⟨PA.imp Gz fun x H Q zz103=>?_,fun b N=>⟨PE.imp (t:=fun _ _ _=>False) (fun _ _ _ _ _ _ h=>h.elim) fun x H Q zz104=>by let⟨w,f,M,A,S,g,m⟩:=zz104;show g,fun _ a i s x H Q I zz105=>by let⟨w,f,M,A,S,g,m⟩:=zz105;show g.elim⟩⟩
   let⟨w,f,M,A,S,g,m⟩:=zz103
   have:=m [] w [] M (Ext.refl w) S.rs (RDs.nil w) g
   rw[S.heap] at this
   show this
  | cons l E=>left
 | .cons e r,k,Z,V,X,E,G,h=>by
  cases E with
  | nil=>left
  | cons l E=>
   change (_&&_)=true at h
   simp only[Bz9] at h
   let⟨T,R⟩:=Zm c e k Z V X l G h.1.1
   let⟨ir,ib⟩:=X8 c r k Z V X E G h.2
   refine⟨PA.imp (Qn T ir (Zs h.1.2)) fun x H Q ⟨w,f,M,A,S,g,m⟩=>?_,fun b N=>?_⟩
   .refine Zy S g fun v B d n j p o u=>?_
    refine⟨B,f,n,_,S.next j p,u,fun vs J ds P F C Y L=>?_⟩
    show m _ J _ P (j.trans F) C (RDs.cons (o.ext F) Y) L
   .cases r with
    | nil=>
     cases E with
     | cons _ _=>show absurd h.2 Bf9
     | nil=>
      refine⟨PE.imp (Yn5 T) fun x H Q q=>q,fun hn=>?_⟩
      have y:noIf e=true:=(Bool.and_eq_true_iff.mp (show(noIf e&&Z93 .nil)=true from hn)).1
      cases b with
      | true=>show fun a i s x H Q I q=>Ya0 (R y) a i s x H Q I q
      | false=>show fun a i s x H Q I q=>Ys9 (R y) a i s x H Q I q
    | cons U C=>
     cases E with
     | nil=>show absurd h.2 Bf9
     | cons l2 E=>
      let⟨jb,jw⟩:=ib b N
      constructor
      .cases b with
       | true=>
        refine PE.imp (Yd9 T jb) fun x H Q zz107=>?_
        let⟨w,f,M,A,S,g,m⟩:=zz107
        refine Zy S g fun v B d n j p o u=>?_
        let⟨z,W,D⟩:=Tu (K:=X.K) (by rw[j.K,S.K,G.eK]) p o u
        refine⟨z,W,?_⟩
        cases z with
        | true=>rw[nh rfl] at D ⊢;show Zy (S.next j p) D (m.ext j)
        | false=>rw[ng Bf9] at D ⊢;show m _ B _ n j p o D
       | false=>
        refine PE.imp (Yl7 T jb) fun x H Q zz108=>?_
        let⟨w,f,M,A,S,g,m⟩:=zz108
        refine Zy S g fun v B d n j p o u=>?_
        let⟨z,W,D⟩:=Tu (K:=X.K) (by rw[j.K,S.K,G.eK]) p o u
        refine⟨z,W,?_⟩
        cases z with
        | false=>rw[nh rfl] at D;rw[ng Bf9];show Zy (S.next j p) D (m.ext j)
        | true=>rw[ng 'd'] at D;rw[nh rfl];show m _ B _ n j p o D
      .intro hn
       have y:noIf e=true/\Z93 (.cons U C)=true:=by
        have:(noIf e&&Z93 (.cons U C))=true:=hn
        simpa using this
       have O:=jw y.2
       cases b with
       | true=>
        rintro a i s x H Q I ⟨w,f,M,A,S,g,m⟩
        refine Yn0 (R y.1) O a i s x H Q I ?_
        refine⟨w,f,M,fun z n=>if z=true then ttD (tbop c Z true (.cons U C)) f n A else A false n,S,?_,fun z B n j p u=>?_⟩
        .exact te_bop_tt g
        .cases z with
         | true=>rw[nh rfl] at u ⊢;show⟨B,f,n,A,S.next j p,u,fun z J P F C L=>m z J P (j.trans F) C L⟩
         | false=>rw[ng Bf9] at u ⊢;show m _ B n j p u
       | false=>
        rintro a i s x H Q I ⟨w,f,M,A,S,g,m⟩
        refine X03 (R y.1) O a i s x H Q I ?_
        refine⟨w,f,M,fun z n=>if z=true then A true n else ttD (tbop c Z false (.cons U C)) f n A,S,?_,fun z B n j p u=>?_⟩
        .exact te_bop_ff g
        .cases z with
         | true=>rw[nh rfl] at u ⊢;show m _ B n j p u
         | false=>rw[ng Bf9] at u ⊢;show⟨B,f,n,A,S.next j p,u,fun z J P F C L=>m z J P (j.trans F) C L⟩
theorem Nn(c:Cfg):∀t:Eo,Y43 c t
 | .no=>⟨fun k Z b X n G h=>by
   cases n with
   | none=>
    rintro a s i H Q I ⟨w,f,M,u,S,g,o⟩
    refine Yk1 a s i H Q I ?_
    have:=o none w M (Ext.refl w) S.rs g
    rw[S.heap] at this
    show this
   | some _=>left,fun k Z b X m G h=>by
   cases m with
   | nil=>show .inr ⟨rfl,rfl⟩
   | cons _ _=>left⟩
 | .yes e=>⟨fun k Z b X n G h=>by
   cases n with
   | none=>left
   | some x=>
    rintro a s i H Q I ⟨w,f,M,u,S,g,o⟩
    refine Ye2 (Zm c e k Z b X x G h).1 a s i H Q I ?_
    refine Zy S g fun v q d y p r j l=>?_
    split at l
    .cases Zf.mp j
     show⟨_,rfl,o _ q y p r l⟩
    .exact l.elim,fun k Z b X m G h=>by
   match m,h with
   | [x],h=>
    change (_&&_)=true at h
    simp only[Bz9] at h
    show .inl ⟨x,rfl,(Zm c e k Z b X x G h.1).2 h.2⟩
   | [],h=>left
   | _::_::_,h=>left⟩
theorem Zj3(c:Cfg):∀it:It,Yr9 c it
 | .seq e,k,Z,B,X,D,P,G,h,_=>by
  refine PI.imp (Yr2 (Zm c e k Z B X P G h).1) fun Q H R zz109=>?_
  let⟨w,A,M,QD,S,g,y⟩:=zz109
  refine Zy S g fun v r d z o j b f=>?_
  have t:X.K=r.K:=by rw[o.K,S.K,G.eK]
  unfold itD at f
  split at f
  .let⟨L,rfl⟩:=Zk.mp b
   let⟨xs,J,I⟩:=f
   let⟨_,s,i,u,_⟩:=j.listL J
   rw[<-t] at i
   show .inl ⟨_,rfl,⟨s,i⟩,y _ r _ _ z o j (Zt6 t L) I⟩
  .let⟨a,s,rfl,i,u⟩:=Yb.mp b
   show .inr ⟨a,rfl,⟨s,.of i⟩,y _ r _ _ z o j (Zm5 t (.of i) u) f⟩
  .let⟨a,s,rfl,i,u⟩:=Vn.mp b
   show .inr ⟨a,rfl,⟨s,by rw[t];show i⟩,y _ r _ _ z o j (Zm5 t i u) f⟩
  .exact f.elim
 | .rng1 a,k,Z,B,X,D,P,G,h,_=>by
  let⟨fn,W,Y,V,rfl,h⟩:=Yi h
  let⟨x,np,rfl,h⟩:=Zn h
  let⟨rfl,h⟩:=Yq h
  let⟨l,rfl,h⟩:=Ys h
  change (_&&_)=true at h
  simp only[Bz9,beq_iff_eq,Hq] at h
  let⟨⟨⟨⟨rfl,h1⟩,E⟩,C⟩,N⟩:=h
  let⟨g1,g2,g3⟩:=G.gl h1
  refine PI.imp (Ze4 g1 (G.blt _ E) (Qn (Zm c a k Z B X l G N).1 Gz (Zs C)) (Zs C)) fun Q H R zz110=>?_
  let⟨w,A,M,QD,S,g,y⟩:=zz110
  refine Zy S g fun v r d z o j b f=>?_
  split at f
  .cases Zf.mp b
   show⟨_,rfl,f.1,f.2.1,y _ r _ _ z o j Yh1 f.2.2⟩
  .exact f.elim
 | .zip es,k,Z,B,X,D,P,G,h,ht=>by
  cases D with
  | Tuple O z0 tp=>
   let⟨l,W,p,q,rfl,E⟩:=Ze8 h
   simp only[Bz9,Hq] at E
   let⟨⟨C,N⟩,h5⟩:=E
   let⟨g1,g2,g3⟩:=G.gl C
   let⟨s1,s2⟩:=Yy9 h5
   refine PI.imp (Y85 g1 (G.blt _ N) (X8 c es k Z B X (l::W) G h5).1 s1 s2) fun Q H R zz111=>?_
   let⟨w,A,M,QD,S,g,y⟩:=zz111
   refine⟨w,A,M,_,S,g,fun s r ds z o j b f=>?_⟩
   let⟨da,db,rfl,q2⟩:=Si f
   have t:X.K=r.K:=by rw[o.K,S.K,G.eK]
   let⟨v1,v2,rfl,a1,a2⟩:=rds2 b
   rcases Y14 q2 with⟨n,m,ys,zs,rfl,rfl,J,I,T⟩ | ⟨ys,zs,rfl,rfl,T⟩
   .let⟨L,rfl⟩:=Zk.mp a1
    let⟨hm,rfl⟩:=Zk.mp a2
    let⟨_,U,i,_,_⟩:=j.listL J
    let⟨_,s,u,_,_⟩:=j.listL I
    rw[<-t] at i u
    show .inl ⟨_,_,rfl,⟨U,i⟩,⟨s,u⟩,y _ r _ _ z o j (Yj6 t L hm) T⟩
   .let⟨p1,U,rfl,i,u⟩:=Yb.mp a1
    let⟨p2,s,rfl,y3,y4⟩:=Yb.mp a2
    show .inr ⟨_,_,U,s,rfl,.of i,.of y3,y _ r _ _ z o j (Zt1 i y3 u y4) T⟩
  | _=>show absurd ht Bf9
 | .enm a,k,Z,B,X,D,P,G,h,ht=>by
  let⟨O,z0,tp,rfl,_⟩:=Fj (F:=fun _=>true) (show Yc3 D (fun _=>true)=true by cases D<;>first | rfl | show ht)
  let⟨fn,W,Y,V,rfl,h⟩:=Yi h
  let⟨x,np,rfl,h⟩:=Zn h
  let⟨rfl,h⟩:=Yq h
  let⟨l,rfl,h⟩:=Ys h
  change (_&&_)=true at h
  simp only[Bz9,beq_iff_eq,Hq] at h
  let⟨⟨⟨⟨rfl,h1⟩,E⟩,C⟩,N⟩:=h
  let⟨g1,g2,g3⟩:=G.gl h1
  refine PI.imp (Ye0 g1 (G.blt _ E) (Qn (Zm c a k Z B X l G N).1 Gz (Zs C)) (Zs C)) fun Q H R zz112=>?_
  let⟨w,A,M,QD,S,g,y⟩:=zz112
  refine Zy S g fun v r d z o j b f=>?_
  have t:X.K=r.K:=by rw[o.K,S.K,G.eK]
  split at f
  .let⟨L,rfl⟩:=Zk.mp b
   let⟨xs,J,I⟩:=f
   let⟨_,s,i,u,_⟩:=j.listL J
   rw[<-t] at i
   show⟨_,rfl,⟨s,i⟩,y _ r _ _ z o j (Zz7 t L) I⟩
  .exact f.elim
end
noncomputable def N5:Expr->Bool
 | .ListComp .. | .SetComp .. | .DictComp ..=>false
 | _=>true
def J6:Expr->Bool
 | .Tuple ..=>false
 | _=>true
def Yt0:Expr->Bool
 | .Name ..=>true
 | _=>false
def Yp2(k:Ck)(t x:Expr):Bool:=match t,x with
 | .Name n b,.ListComp _ _ a p=>k.sc.kind== .function&&k.loc n&&b.line==p.line&&!(a.names.any fun(m,j)=>m==n&&(j== .local || j== .cell))
 | _,_=>false
def Yk7(k:Ck)(t x:Expr):Bool:=match t,x with
 | .Name n _,.ListComp ..=>k.sc.names.lookup n==some .cell
 | _,_=>false
def Yd3(a:Stmt)(F:List Expr->Expr->Bool):Bool:=if q:a.ctorIdx=5 then Stmt.Assign.elim (motive_2:=fun _=>Bool) a q (fun b v _=>F b v) else false
def Ep{a:Stmt}(h:Yd3 a F=true):∃ts v p,a= .Assign ts v p/\F ts v=true:=by
 let⟨q,h⟩:=Zv h
 show Stmt.Assign.elim (motive_2:=fun a=>∀q:a.ctorIdx=5,Stmt.Assign.elim (motive_2:=fun _=>Bool) a q (fun ts v _=>F ts v)=true->∃ts v p,a= .Assign ts v p/\F ts v=true) a q (fun ts v p _ h=>⟨ts,v,p,rfl,h⟩) q h
def onSm{a:Type}(o:Option a)(F:a->Bool):Bool:=match o with
 | some x=>F x
 | none=>false
def Z57{a:Type}{o:Option a}{F:a->Bool}(h:onSm o F=true):∃x,o=some x/\F x=true:=by
 cases o with
 | none=>left
 | some x=>show⟨x,rfl,h⟩
def chkB(k:Ck)(h:Tk)(f:Nat)(es:Es)(st:Stmt):Bool:=Yd3 st fun a v=>on1 a fun t=>X7 t fun n=>Tb v fun c _ b _=>X7 c fun _=>on0 b (match h with
 | .set i=>k.N[i]?==some n&&k.loc n&&chkE k (.call f es) v
 | _=>false)
def Zb8{k:Ck}{f:Nat}{c:Stmt}(b:chkB k h f es c=true):∃i n a x p ls q pos,h= .set i/\c= .Assign [.Name n a] (.Call (.Name x p) ls [] q) pos/\(k.N[i]?==some n&&k.loc n&&chkE k (.call f es) (.Call (.Name x p) ls [] q))=true:=by
 let⟨d,v,pos,rfl,b⟩:=Ep b
 let⟨t,rfl,b⟩:=Ys b
 let⟨n,a,rfl,b⟩:=Zn b
 let⟨g,ls,e,q,rfl,b⟩:=Yi b
 let⟨x,p,rfl,b⟩:=Zn b
 let⟨rfl,b⟩:=Yq b
 cases h with
 | set i=>show⟨i,n,a,x,p,ls,q,pos,rfl,rfl,b⟩
 | _=>show absurd b Bf9
mutual
noncomputable def chkS(k:Ck):S->Stmt->Bool
 | .ret e,.Return (some x) _=>chkE k e x
 | .expr e,.Expr x _=>N5 x&&chkE k e x
 | .setL d e,.Assign [.Tuple j _ _] x _=>k.calm&&Zk2 k d j&&chkE k e x&&N5 x&&J6 x
 | .set d e,.Assign [t] x _=>O1 k d t&&chkE k e x&&((N5 x&&(Yt0 t || J6 x)) || (Yp2 k t x&&decide (d.length=1)) || Yk7 k t x)
 | .put o i v,.Assign [.Subscript l r _] x _=>Cy r&&N5 x&&chkE k v x&&chkE k o l&&chkE k i r
 | .ite t a b,.If x c u _=>chkE k t x&&noIf t&&V3 k a c&&V3 k b u
 | .for_ d m b,.For t x c [] _=>k.calm&&k.loops&&Zb2 x&&O1 k d t&&Zv7 k m x&&V3 k b c&&itTg m t
 | .forK d e b,.For t x c [] _=>k.calm&&k.loops&&Zb2 x&&O1 k d t&&chkE k e x&&V3 k b c
 | .while_ t b,.While x c [] _=>k.loops&&chkE k t x&&noIf t&&V3 k b c
 | .raise g j,.Raise C E _=>onSm C fun e=>Tb e fun A c y _=>X7 A fun x=>on0 y (noO E (k.calm&&k.raises.contains g&&k.GN[g]?==some x&&k.glob x&&decide (c.length<=1)&&W1 k j c))
 | .tryN h f j g s,.Try F z o B _=>on1 F fun b=>on1 z fun D=>match D with
  | .ExceptHandler n w G _=>onSm n fun t=>X7 t fun x=>noO w (on0 o (on0 B (onC G fun q p=>k.calm&&k.tries&&k.GN[g]?==some x&&k.glob x&&chkB {k with tries:=false,raises:=[]} h f j b&&
   V3 {k with calm:=false,loops:=true,tries:=false,raises:=[]} s (q::p))))
 | _,_=>false
noncomputable def V3(k:Ck):Ss->List Stmt->Bool
 | .nil,[]=>true
 | .cons s r,x::a=>chkS k s x&&V3 k r a
 | _,_=>false
end
section
variable{c:Cfg}{k:Ck}{Z:DX}{w0:Vw}{X:Cx}
def Jb{x:Expr}{t:Option Expr}{a:Nat}(h:N5 x=true):swapsWith x t a env=pure false:=by
 cases x<;>first | rfl | cases h
def Ng{f:DS}{g:L2.St}{H:Hp}(S:StOk w0 w e M g H)(h:f RR e M)
  (m:∀b d a M',Ext w d->RS d M'->REnv d a b->RR.nx a M'->R.nx b d.H) (l:Aft w RR.rt R.rt)
  (j:∀b d a M',Ext w d->RS d M'->REnv d a b->RR.bk a M'->R.bk b d.H)
  (i:∀b d a M',Ext w d->RS d M'->REnv d a b->RR.ct a M'->R.ct b d.H):tFS w0 f R g H:=⟨w,e,M,RR,S,h,m,l,j,i⟩
def Yi2(X:Cx)(R:Ends):Ends:={nx:=fun d H=>∃a o b,H a=some (.frz o (.dK b))/\(∀o u,X.H₀ a≠some (.frz o u))/\R.nx d (upd H a (.dK b)),rt:=fun v H=>∃a o b,H a=some (.frz o (.dK b))/\(∀o u,X.H₀ a≠some (.frz o u))/\R.rt v (upd H a (.dK b))}
def Ya6{st:Stmt}{t:TS}(h:PS X st t):PS X st (fun R j H=>t (Yi2 X R) j H):=by
 intro d s j H D I q
 refine thn (h d s j H (Yi2 X D) I q) fun f p i=>?_
 cases f with
 | next=>
  let⟨b,n,g,a,o,m,e,l,q⟩:=i
  show⟨b,_,Y76 g e l,q⟩
 | brk=>let⟨b,n,g,q⟩:=i;show q.elim
 | cont=>let⟨b,n,g,q⟩:=i;show q.elim
 | ret u=>
  let⟨v,b,n,g,r,a,o,m,e,l,q⟩:=i
  show⟨v,b,_,Y76 g e l,r,q⟩
def REnv.ext0{w f:Vw}{a:DEnv}{b:L2.St}(h:REnv w a b)(x:Ext0 w f):REnv f a b:=
 ⟨h.1,fun i d e=>by let⟨v,q,r⟩:=h.2 i d e;show⟨v,q,r.ext0 x⟩⟩
def Ef{w1 a:Vw}{n:Nat}(g:n<w1.n)(e:w1.H (w1.μ n)=some (.dK vs))(x:Ext (w1.alloc (w1.μ n) (.frz o (.dK vs))) a)(r:RS a M')(t:M'[n]?=some (.fdc kvs)):
  a.H (w1.μ n)=some (.frz o (.dK vs))/\Ext w1 (a.alloc (w1.μ n) (.dK vs))/\Ext0 a (a.alloc (w1.μ n) (.dK vs))/\RS (a.alloc (w1.μ n) (.dK vs)) (M'.set n (.dct kvs)):=by
 have q:=x.imm (w1.μ n) _ Zl rfl
 have b:a.μ n=w1.μ n:=x.μ n g
 let⟨i,h,d,f⟩:=r.cell n _ t
 rw[b,q] at d
 cases d
 refine⟨q,Zy5 e rfl x,Ev q,?_⟩
 have:=r.thaw t (by rw[b];show q) f
 rw[b] at this
 show this
def Zq3{w1:Vw}{J:L2.It}{own:Own}{xs:LD}{s:LQ}{body:DS}{K:Z2}{U:Hp}{n:DEnv}{l:L2.St}{RR:DEnds}{R:Ends}(S:StOk w0 w1 n K l U)(jk:JOk w1 J own xs)
  (h:forD own xs s body xs RR n K)
  (Q:∀b f a M',Ext w1 f->RS f M'->REnv f a b->RR.nx a M'->R.nx b f.H) (h2:Aft w1 RR.rt R.rt):
  ∃W:Nat->Nat->L2.St->Hp->Prop,(∃m,W 0 m l U)/\∀i m l H,W i m l H->
   (J.stop i H/\R.nx l H)\/(J.go i H/\∃N:L2.St->Hp->Prop,(∀b H',N b H'->∃P,P<m/\W (i+1) P b H')/\∀x H',J.yld i H x H'->gF w0 s x l H' fun g H2=>tFS w0 body {R with nx:=N,ct:=N,bk:=R.nx} g H2):=by
 refine⟨fun i m l H=>∃w e M,StOk w0 w e M l H/\Ext w1 w/\i<=xs.length/\m=xs.length - i/\forD own xs s body (xs.drop i) RR e M,⟨xs.length,w1,n,K,S,Ext.refl _,nl _,rfl,h⟩,?_⟩
 rintro i m E Hc ⟨w,e,M,j,y,hi,rfl,u⟩
 have p:∀t:Pp own xs M,_:=fun t=>jk w M y j.rs t i
 rw[j.heap] at p
 by_cases q:i<xs.length
 .rw[Dz q] at u
  let⟨t,u⟩:=u
  let⟨j1,j2⟩:=(p t).1 xs[i] (Ag q)
  refine .inr ⟨j1,fun b H'=>∃w e M,StOk w0 w e M b H'/\Ext w1 w/\i+1<=xs.length/\forD own xs s body (xs.drop (i+1)) RR e M,?_,fun x H' hy=>?_⟩
  .rintro b H' ⟨Y,g,M2,S2,V,l2,f2⟩
   show⟨xs.length - (i+1),'o',Y,g,M2,S2,V,l2,rfl,f2⟩
  .let⟨O,rfl,o,T,F⟩:=j2 x H' hy
   refine⟨O,e,M,xs[i],_,⟨rfl,j.ext.trans o,T,j.env.ext o⟩,F,u,fun g L C q2=>?_⟩
   have B:∀b f a M',Ext O f->RS f M'->REnv f a b->forD own xs s body (xs.drop (i+1)) RR a M'->
     ∃w e M,StOk w0 w e M b f.H/\Ext w1 w/\i+1<=xs.length/\forD own xs s body (xs.drop (i+1)) RR e M:=
    fun b f a M' r z I A=>⟨f,a,M',⟨rfl,(j.ext.trans o).trans r,z,I⟩,(y.trans o).trans r,q,A⟩
   show Ng ⟨rfl,j.ext.trans o,T,C⟩ q2 B (fun v f d M' r z G A=>h2 v f d M' ((y.trans o).trans r) z G A)
    (fun b f a M' r z I A=>Q b f a M' ((y.trans o).trans r) z I A) B
 .rw[Ls 'o'] at u
  let⟨t,hq⟩:=u
  refine .inl ⟨(p t).2 'o',?_⟩
  have:=Q E w e M y j.rs j.env hq
  rw[j.heap] at this
  show this
def Ys1{o i value:Expr}(hu:X.A.units+1<cLine)(ho:PE X o td)(hi:PE X i ty)(hv:PE X value tv)(hs:swapsWith value (some (.Subscript o i pos')) pos.line X.env=pure false):
  PS X (.Assign [.Subscript o i pos'] value pos) (fun R σ H=>tv σ H fun v H1=>td σ H1 fun x H2=>ty σ H2 fun y H3=>Yu8 x y v H3 (fun H4=>R.nx σ H4)\/∃a H4,x= .ref a/\DPut H3 a y v H4/\R.nx σ H4):=by
 intro pins s σ H D I h
 refine wpAny_Assign_Subscript (thn (hv pins s σ H _ I h) fun r s1 ⟨v,H1,I1,rv,q1⟩=>thn (ho pins s1 σ H1 _ I1 q1) fun u s2 ⟨x,H2,I2,rx,q2⟩=>thn (hi pins s2 σ H2 _ I2 q2) fun iv s3 zz115=>?_) hs
 let⟨y,H3,I3,ry,q3⟩:=zz115
 rcases q3 with q3 | ⟨a,H4,ex,g,q3⟩
 .exact thn (Zz8 pins s3 σ H3 x y v u iv r (fun H4=>D.nx σ H4) I3 rx ry rv q3) fun _ s4 zz116=>by let⟨H4,I4,q4⟩:=zz116;show⟨σ,H4,I4,q4⟩
 .subst ex
  obtain rfl:u=Value.ref a:=rx
  show Zr3 hu I3 g ry rv fun s4 I4=>⟨σ,H4,I4,q3⟩
def Zs1{E:XK}{x:Str}{G a pos:Pos}{C f:Uc}{n:Nat}{t:TA}(L:Leaves X E)(hc:X.calm=true)(p:ExcMk X.K C f)(F:FnOk X.prog X.w X.K X.mg X.base CX0 n f o ps sp)(T:Room (n+1) X.A)(hb:Yg X.K o ps ds)(hd:Vals dvs ds)(Y:Gl X x)(U:X.mg x=↑C)
  (ha:PA X (e::es) t) (l:(x==("__debug__":Str))=false) (he:starEach (e::es) X.env=(false,eval e X.env)::starEach es X.env) (j:(backTo a (starEach es X.env)).any (·.1)=false):
  PS X (.Raise (some (.Call (.Name x G) (e::es) [] a)) none pos) (Y59 C sp dvs E t):=by
 intro d s y H D I h
 rw[arm_exec_Raise]
 simp only[show ∀e v,evalOpt (some e) v=some (eval e v) from fun _ _=>rfl,show ∀v,evalOpt none v=none from fun _=>rfl,Option.map]
 refine Aa (Kb (Oy (C:=C) (I.ok.hd hc) ?_))
 refine Aa (Dy (Q:=fun v b=>∃(e:Uc) (J q:Str) (N:Uc) (bs bm:LW) (g:Bool) (B:LS) (i:LW) (ab:Bool) (m:Option Bool) (dd:Option Uc) (S R P O M:Option Ua) (dx:Option Uc),
   v= .ref e/\ExcCls b.heap C J q N bs bm g B i ab m dd S R P O M "ValueError" "ValueError.__new__"/\ExAt b.heap e (.ref C) dx .none/\X.xe (.ref e) b) ?_ (fun v b z=>Aa (Kb (Ai z))) fun _ _ z=>z)
 refine Hr (W2 I Y U ?_ l)
 refine PySem.W.callWith_K (h₀:=X.base) I.ok.mod.kin p.kp (thn (ha a d s y H _ I h) fun us b ⟨vs,H1,u,r,q⟩=>⟨u.kIn,?_⟩) he j
 show Z25 L p F T hb hd u r q.1 q.2
end
def Z01(c:Cfg)(s:S):Prop:=∀(k:Ck) (Z:DX) (a:Vw) (X:Cx) (b:Stmt),Good c k Z a X->chkS k s b=true->PS X b (tFS a (ts c Z s))
def Zp7(c:Cfg)(s:Ss):Prop:=∀(k:Ck) (Z:DX) (a:Vw) (X:Cx) (b:List Stmt),Good c k Z a X->V3 k s b=true->PSs X b (tFS a (tss c Z s))
section
variable{c:Cfg}{k:Ck}{Z:DX}{w0:Vw}{X:Cx}
def Good.noxG(G:Good c k Z w0 X):Good c {k with tries:=false,raises:=[]} noX w0 X.nox where
 hK:=G.hK
 wK:=G.wK
 N:=G.N
 nd:=G.nd
 sc:=G.sc
 calm:=G.calm
 units:=G.units
 fns:=fun h f x d j i=>by
  let⟨g,f,l,e,m,b,n,a,h⟩:=G.fns h f x d j i
  show⟨g,f,l,e,m,b,n,a,h⟩
 flen:=G.flen
 glb:=G.glb
 blt:=G.blt
 exc:=⟨E0,fun _ _ _ _ _ _ _ h=>by
  let⟨_,_,_,_,_,_,_,_,_,_,_,_,_,_,_,h⟩:=h
  show h.elim,fun o p q h=>by
  let⟨_,_,_,_,_,_,_,_,_,_,_,_,_,h⟩:=h
  show h.elim⟩
 stk:=fun h=>by cases h
 rai:=fun _ h=>absurd h Bf9
 po:=fun _=>PassesOwn.never
 fnc:=G.fnc
 fno:=G.fno
def Good.heldG(G:Good c k Z w0 X)(e:Uc):Good c {k with calm:=false,loops:=true,tries:=false,raises:=[]} noX w0 (Held X e) where
 hK:=G.hK
 wK:=G.wK
 N:=G.N
 nd:=G.nd
 sc:=G.sc
 calm:=fun h=>by cases h
 units:=G.units
 fns:=fun h=>by cases h
 flen:=G.flen
 glb:=G.glb
 blt:=G.blt
 exc:=⟨E0,fun _ _ _ _ _ _ _ h=>by
  let⟨_,_,_,_,_,_,_,_,_,_,_,_,_,_,_,h⟩:=h
  show h.elim,fun a b d h=>by
  let⟨_,_,_,_,_,_,_,_,_,_,_,_,_,h⟩:=h
  show h.elim⟩
 stk:=fun h=>by cases h
 rai:=fun _ h=>absurd h Bf9
 po:=fun _=>PassesOwn.never
 fnc:=G.fnc
 fno:=G.fno
def tFX(w0:Vw)(g:DX->DE):TEX:=fun h H Q E=>∃w a M e Z,StOk w0 w a M h H/\g Z a M e/\Aft w e Q/\∀b d f,xkOf w Z b d f->E b d f
def PEX.imp{t t':TEX}(h:PEX X e t)(q:∀a H Q E,t' a H Q E->t a H Q E):PEX X e t':=fun b s a H Q E I z=>h b s a H Q E I (q a H Q E z)
def Zn5{f:Nat}{g:Nat}{s:Ss}{a:DEnv}:ts c Z (.tryN h f es g s) R a M=(match c.G[g]? with
  | some (.cls D)=>tes c noX es a M fun d i=>match c.Γ[f]? with
   | some b=>b d i (tkD h R a) fun C _ e=>Catch c.K C D true/\tss c noX s R a e
   | none=>False
  | _=>False):=rfl
def Zg8{f:Uc}{i:FuncData}{x:Str}{p pos:Pos}(F:FnOk X.prog X.w X.K X.mg X.base (CX1 X.prog X.w) e f i ps sp)(m:Room e X.A)(r:Gl X x)(n:X.mg x=↑f)(q:Dm X.K (.ref f)=true)(t:Yg X.K i ps ds)(g:Vals dvs ds)
  (b:(x==("__debug__":Str))=false):PEX X (.Call (.Name x p) [] [] pos) (Y79 sp dvs tNil):=by
 intro d s y H Q E I h
 refine Hr (W2 I r n ?_ b)
 refine PySem.W.callWith_K0 I.kIn q ?_
 have o:([]++ds).length=ps.length:=by
  have l:Vals ([]++dvs) ([]++ds):=g
  rw[<-l.length];show F.len _ _ _ _ h
 refine Mc (Ki (F.run X.A X.stack s H ⟨[],[]⟩ ([]++ds) ([]++dvs) Q E m I.env0 (t s [] I.kIn o) g h) fun j B a=>?_)
 cases j with
 | error z=>show Ys7 I a
 | ok v=>
  cases v with
  | ret u=>show I.after a
  | next=>show Bk a
  | brk=>show Bk a
  | cont=>show Bk a
def B8{f:Nat}{x:Str}(G:Good c k Z w0 X)(h:chkE {k with tries:=false,raises:=[]} (.call f es) (.Call (.Name x I) ls [] pos)=true):PEX X (.Call (.Name x I) ls [] pos) (tFX w0 fun Z=>fun b M i=>tes c noX es b M fun s C=>match c.Γ[f]? with
  | some q=>q s C i Z
  | none=>False):=by
 change (_&&_)=true at h
 simp only[Bz9,beq_iff_eq] at h
 let⟨⟨⟨hc,O⟩,hg⟩,d⟩:=h
 let⟨g1,g2,g3⟩:=G.gl hg
 cases o:c.Γ[f]? with
 | none=>
  have h1:=(Ac.mp O).1
  have h2:=Dp.mp o
  rw[G.flen] at h1
  lia
 | some q=>
  let⟨kk,fa,fd,pr,s,z,dD,v,F,J,L,N,R,P,hD,n⟩:=G.fns hc f x q O o
  have m:∀j H Q E,tFX w0 (fun Z=>fun b M i=>tes c noX es b M fun s C=>q s C i Z) j H Q E->tFA w0 (tes c noX es) j H fun D H1=>spF X.K v (D++z) H1 Q E:=by
   rintro j H Q E ⟨w,b,M,i,Z',S,g,a,T⟩
   refine⟨w,b,M,_,S,g,fun D u A M' t U y V=>?_⟩
   have p:u.K=X.K:=by rw[t.K,S.K,G.eK]
   show⟨u,A++dD,M',i,Z',p,rfl,U,y.append (hD u p),n _ _ _ _ V,a.ext t,fun B dd H' Y=>T B dd H' (Fw t Y)⟩
  cases ls with
  | nil=>
   refine PEX.imp (Zg8 F J g1 L N R P g2) fun j H Q E h=>?_
   let⟨w,b,M,i,S,g,a⟩:=m j H Q E h
   cases es with
   | nil=>
    have:=a [] w [] M (Ext.refl w) S.rs (RDs.nil w) g
    rw[S.heap] at this
    show this
   | cons e r=>show absurd d Bf9
  | cons l ls=>
   cases es with
   | nil=>show absurd d Bf9
   | cons e r=>
    have W:=(X8 c (.cons e r) _ _ w0 X.nox (l::ls) G.noxG d).1
    change (_&&_)=true at d
    simp only[Bz9] at d
    show PEX.imp (Zx0 F J g1 L N R P W g2 (Zs d.1.2) (Tn (X9 r ls d.2))) m
def Yw9(K:Ab)(D:Uc)(d:TSX)(ts:TS):TS:=fun R b H=>d R (fun a f e=>∃C,a= .ref C/\Catch K C D true/\ts R b e) b H
def Yb4{body d:List Stmt}{i:Stmt}{x:Str}{np m pos:Pos}{D:Uc}{ts:TS}(hb:PSX X body N)(hs:∀e,PSs (Held X e) (i::d) ts)(hg:Gl X x)(hm:X.mg x=↑D)(L:X.stack=X.env::X.outer)(hf:X.env.frame=some X.env.locals)
  (t:(x==("__debug__":Str))=false:=by decide):PS X (.Try body [.ExceptHandler (some (.Name x np)) none (i::d) m] [] [] pos) (Yw9 X.K D N ts):=by
 intro a s p H R I h
 refine wpAny_Try_except (Dy (hb a s p H R _ I h) (fun f g q=>?_) fun y g q=>?_)
 .cases f with
  | next=>show Lx q
  | ret v=>show q
  | brk=>show q
  | cont=>show q
 let⟨e,T,z0,dd,o,rfl,n,ft,w,he,W,t1,C,rfl,S,q⟩:=q
 refine Fl (outer:=X.outer) (base:=X.base) (L:=X.env.locals) (by rw[<-L];show n.ok.frames) (by rw[<-L];show n.stack) hf W t1 w fun A T1 J G F Q P=>?_
 have I2:Inv X a p o {g with heap:=A}:=Y28 n ft he F (by rw[L];show P)
 have O:FpOk X a o T1:=n.fpOk J (n.hok.fresh J)
 refine S9 (s:={g with heap:=A}) F Q G fun r M Y k3 _=>?_
 have I3:Inv X a p o {g with heap:=r}:=Z66 (s:={g with heap:=A}) I2 O k3
 have B:=Yb5 I3 e
 refine wpAny_handleBy_cons (codeAny_handlers_test ?_) (by intro z;cases z)
 refine W2 (X:=Held X e) B hg hm ?_ t
 let⟨oe,vs,V,⟨U,y3⟩,y4,y5⟩:=id M
 refine Cc (s:={g with heap:=r}) B.kIn S V U ?_
 refine PySem.codeAny_handlers_suite ?_
 refine S9 (s:={g with heap:=r}) M Y G fun h4 x4 t4 k4 _=>?_
 have J4:Inv (Held X e) a p o {g with heap:=h4}:=Z66 (s:={g with heap:=r}) B O k4
 refine Dy (hs e a _ _ o _ J4 q) (fun f s6 b=>?_) fun _ _ z=>z.elim
 cases f with
 | next=>
  let⟨j,E,l,b⟩:=b
  show⟨_,_,Ry I.ok l,b⟩
 | brk=>
  let⟨j,E,l,b⟩:=b
  show⟨_,_,Ry I.ok l,b⟩
 | cont=>
  let⟨j,E,l,b⟩:=b
  show⟨_,_,Ry I.ok l,b⟩
 | ret u=>
  let⟨v,j,E,l,rv,b⟩:=b
  show⟨v,_,_,Ry I.ok l,rv,b⟩
set_option tactic.hygienic true in
def Za2{f:Nat}{g:Nat}{x:Str}(G:Good c k Z w0 X)(hc:k.calm=true)(ht:k.tries=true)(hg:k.GN[g]?=some x)(hgl:k.glob x=true)
  (hb:chkB {k with tries:=false,raises:=[]} h f es bs=true) (hs:V3 {k with calm:=false,loops:=true,tries:=false,raises:=[]} sx (s0::ss)=true) (ih:Zp7 c sx):
  PS X (.Try [bs] [.ExceptHandler (some (.Name x np)) none (s0::ss) hp] [] [] pos) (tFS w0 (ts c Z (.tryN h f es g sx))):=by
 let⟨g1,g2,g3⟩:=G.gl hgl
 let⟨st1,st2⟩:=G.stk ht
 have never:(∀D,c.G[g]?≠some (.cls D))->PS X (.Try [bs] [.ExceptHandler (some (.Name x np)) none (s0::ss) hp] [] [] pos) (tFS w0 (ts c Z (.tryN h f es g sx))):=fun no=>
  PS.imp Z04 fun R σ H zy7=>by
   let⟨w,σD,M,RR,S,q,_⟩:=zy7
   rw[Zn5] at q
   split at q
   .rename_i D e;show(no D e).elim
   .exact q
 by_cases hD:∃D,c.G[g]?=some (.cls D)
 .let⟨Dc,hD⟩:=hD
  let⟨v,u,q1,q2,q3⟩:=G.glb g x _ hg hD
  have hv:v= .ref Dc:=N8.mp (q3 ⟨X.K,fun _=>none,fun _=>0,0⟩ rfl)
  subst hv
  cases (show u=Value.ref Dc from q2)
  have suite:∀e,PSs (Held X e) (s0::ss) (tFS w0 (tss c noX sx)):=fun e=>ih _ _ w0 (Held X e) (s0::ss) (G.heldG e) hs
  have key:∀(R:Ends) (σ:L2.St) (H:Hp) (Q:VK),tFS w0 (ts c Z (.tryN h f es g sx)) R σ H->(∀(RR:DEnds) (σD:DEnv) (w:Vw),REnv w σD σ->(∀σ' w' σD' M',Ext w w'->RS w' M'->REnv w' σD' σ'->RR.nx σD' M'->R.nx σ' w'.H)->Aft w RR.rt R.rt->Aft w (tkD h RR σD) Q)->
    tFX w0 (fun Z=>fun σD M QD=>tes c noX es σD M fun ds M1=>match c.Γ[f]? with
     | some sp=>sp ds M1 QD Z
     | none=>False) σ H Q (fun cls dd H1=>∃C,cls= .ref C/\Catch X.K C Dc true/\tFS w0 (tss c noX sx) R σ H1):=by
   rintro R σ H Q ⟨w,σD,M,RR,S,q,h1,h2,h3,h4⟩ hQ
   rw[Zn5] at q
   rw[hD] at q
   refine⟨w,σD,M,tkD h RR σD,_,S,q,hQ RR σD w S.env h1 h2,?_⟩
   rintro cls dd H' ⟨C,dx,r,w',row,M',rfl,rfl,rfl,x',r',z1,z2,z3,z4⟩
   refine⟨C,rfl,by rw[G.hK];show z3,?_⟩
   refine Ng (RR:=RR) ⟨rfl,S.ext.trans x',r',S.env.ext x'⟩ z4 ?_ ?_ ?_ ?_
   .exact fun σ' w2 σD' M2 x2 r2 e2 q2=>h1 _ w2 _ M2 (x'.trans x2) r2 e2 q2
   .exact h2.ext x'
   .exact fun σ' w2 σD' M2 x2 r2 e2 q2=>h3 _ w2 _ M2 (x'.trans x2) r2 e2 q2
   .exact fun σ' w2 σD' M2 x2 r2 e2 q2=>h4 _ w2 _ M2 (x'.trans x2) r2 e2 q2
  have fin:∀{tb:TSX},PSX X [bs] tb->(∀R σ H,tFS w0 (ts c Z (.tryN h f es g sx)) R σ H->tb R (fun cls dd H1=>∃C,cls= .ref C/\Catch X.K C Dc true/\tFS w0 (tss c noX sx) R σ H1) σ H)->
    PS X (.Try [bs] [.ExceptHandler (some (.Name x np)) none (s0::ss) hp] [] [] pos) (tFS w0 (ts c Z (.tryN h f es g sx))):=fun{tb} hb' hk=>
   PS.imp (Yb4 hb' suite g1 q1 st1 st2 g2) hk
  replace hb:=Zb8 hb
  let⟨j,n,na,x2,p2,ls,q2,pos2,rfl,rfl,hb⟩:=hb
  rw[Bz9,Bz9,beq_iff_eq] at hb
  let⟨⟨hb1,hb2⟩,hb3⟩:=hb
  have hj:=(congrArg (fun N:LS=>N[j]?) G.N).trans hb1
  unfold Ck.loc at hb2
  have hjl:=Kj hb2
  dsimp only at hjl
  rw[<-G.sc] at hjl
  show fin (Yi6 G.nd hj (.inl hjl) (B8 G hb3) rfl (.inr hjl)) fun R σ H q=>key R σ H _ q fun RR σD w env h1 h2=>fun v w' d M' x' r' rd' q'=>h1 _ w' _ M' x' r' ((env.ext x').set j rd') q'
 .exact never fun D e=>hD ⟨D,e⟩
end
section
variable{c:Cfg}{k:Ck}{Z:DX}{w0:Vw}{X:Cx}
def Z92{H:Hp}{e d:Uc}{a b c' d':HO}(h:(upd H e a) d=none):upd (upd (upd (upd H e a) d b) e c') e d'=upd (upd H d b) e d'/\d≠e:=by
 have f:d≠e:=by
  rintro rfl
  rw[Zl] at h
  cases h
 refine⟨?_,f⟩
 funext p
 unfold upd
 by_cases i:p=e
 .simp[i]
 .by_cases g:p=d
  .simp[g,f]
  .simp[i,g]
def Z34{c:Cfg}{k:Nat}{a:DEnv}:ts c Z (.raise k es) R a M=(match c.G[k]? with
  | some (.cls C)=>tes c Z es a M fun b d=>match excD b with
   | some r=>Z C r d
   | none=>False
  | _=>False):=rfl
set_option tactic.hygienic true in
def Be{g:Nat}{x:Str}(G:Good c k Z w0 X)(hc:k.calm=true)(hr:k.raises.contains g=true)(hg:k.GN[g]?=some x)(s0:k.glob x=true)(hn:ls.length<=1)(t:W1 k es ls=true)(ih:PA X ls (tFA w0 (tes c Z es))):
  PS X (.Raise (some (.Call (.Name x np) ls [] x0)) none pos) (tFS w0 (ts c Z (.raise g es))):=by
 let⟨g1,g2,g3⟩:=G.gl s0
 by_cases P:∃C,c.G[g]?=some (.cls C)
 .let⟨C,P⟩:=P
  let⟨v,u,q1,q2,q3⟩:=G.glb g x _ hg P
  have hv:v= .ref C:=N8.mp (q3 ⟨X.K,fun _=>none,fun _=>0,0⟩ rfl)
  subst hv
  cases (show u=Value.ref C from q2)
  let⟨⟨E,L,xk⟩,rs⟩:=G.rai g hr
  let⟨kk,f,fd,Mk,F,s,b1,b0,S0⟩:=rs C P
  have W:∀(R:Ends) (p:L2.St) (H:Hp) (O:LV) (v0:LD->D),(∀(w:Vw) j m r,excD j=some r->RDs w j m->j.length=ls.length->∃y,m++O=[y]/\RD w r y)->(∀i M B,tes c Z es i M B->tes c Z es i M fun j I=>j.length=ls.length/\B j I)->tFS w0 (ts c Z (.raise g es)) R p H->
    tFA w0 (tes c Z es) p H fun m H1=>m.length<=8/\∀e,H1 e=none->N1 X.K (.ref e::(m++O)) (upd H1 e (XN e (.ref C) none)) (fun v H2=>v= .non/\∃dd,H2 e=some (XN e (.ref C) dd)/\E (.ref C) dd (upd H2 e (XO e (.ref C) dd))) E0:=by
   rintro R p H O v0 Y z0 ⟨w,i,M,RR,S,q,_⟩
   rw[Z34] at q
   rw[P] at q
   refine⟨w,i,M,_,S,z0 _ _ _ q,fun m T j M' x' r' u0 U=>?_⟩
   let⟨hl,U⟩:=U
   split at U
   .rename_i r er
    let⟨y,ey,ry⟩:=Y T j m r er u0 hl
    have t0:m.length<=8:=by
     have:=congrArg Mh ey
     simp at this
     lia
    refine⟨t0,fun e he=>⟨e,C,y,by rw[ey],Zl,S0,fun n N=>⟨rfl,some n,Zl,?_⟩⟩⟩
    let⟨eH,J⟩:=Z92 (b:= .xd [("row",y)]) (c':=XN e (.ref C) (some n)) (d':=XO e (.ref C) (some n)) N
    rw[eH]
    have A:T.H n=none:=by rw[Z6 J] at N;show N
    have y0:(T.alloc n (.xd [("row",y)])).H e=none:=by
     change upd T.H n _ e=none
     rw[Z6 (Au J)];show he
    have y1:=We (o:= .xd [("row",y)]) A
    have y2:=We (o:=XO e (.ref C) (some n)) y0
    have Q:=y1.trans y2
    refine xk _ _ _ ⟨C,n,y,(T.alloc n (.xd [("row",y)])).alloc e (XO e (.ref C) (some n)),r,M',rfl,rfl,rfl,(S.ext.trans x').trans Q,(r'.alloc A).alloc y0,?_,ry.ext Q,U⟩
    rw[Z6 J,Zl]
   .exact U.elim
  cases ls with
  | nil=>
   cases es with
   | cons e r=>show absurd t Bf9
   | nil=>
    refine PS.imp (Zl2 L (G.calm hc) Mk F s b1 (dvs:=[.non]) (.cons rfl .nil) g1 q1 g2) fun R p H h=>?_
    let⟨w,i,M,B,S,q,a⟩:=W R p H [.non] (fun _=> .non) (fun w j m r er rd hl=>by
     cases Ig.mp hl
     cases rds0 rd
     cases er
     show⟨.non,rfl,Zw.mpr rfl⟩) (fun i M B h=>⟨rfl,h⟩) h
    have:=a [] w [] M (Ext.refl w) S.rs (RDs.nil w) q
    rw[S.heap] at this
    show this
  | cons l ls=>
   cases ls with
   | cons _ _=>simp at hn
   | nil=>
    cases es with
    | nil=>show absurd t Bf9
    | cons ee r=>
     cases r with
     | cons _ _=>
      change (_&&_)=true at t
      simp only[Bz9] at t
      show absurd t.2 Bf9
     | nil=>
      change (_&&_)=true at t
      simp only[Bz9] at t
      refine PS.imp (Zs1 L (G.calm hc) Mk F s b0 (dvs:=[]) .nil g1 q1 ih g2 (Zs t.1.2) rfl) fun R p H h=>?_
      show W R p H [] (fun _=> .non) (fun w j m r er rd hl=>by
       match j,hl with
       | [d],_=>
        let⟨y,rfl,ry⟩:=rds1 rd
        cases er
        show⟨y,rfl,ry⟩) (fun i M B h=>by
       have e:(fun(d:D) (I:Z2)=>B [d] I)=fun d I=>[d].length=[l].length/\B [d] I:=by
        funext d I
        show propext ⟨fun z=>⟨rfl,z⟩,fun z=>z.2⟩
       have h':te c Z ee i M fun(d:D) (I:Z2)=>B [d] I:=h
       rw[e] at h'
       show h') h
 .refine PS.imp Z04 fun R p H zz118=>?_
  let⟨w,i,M,RR,S,q,_⟩:=zz118
  rw[Z34] at q
  split at q
  .rename_i C e;show(P ⟨C,e⟩).elim
  .exact q
end
def Z84{k:Ck}{t x:Expr}(h:Yp2 k t x=true):∃n b c a scope p,t= .Name n b/\x= .ListComp c a scope p:=by
 cases t with
 | Name n b=>
  cases x with
  | ListComp c a scope p=>show⟨_,_,_,_,_,_,rfl,rfl⟩
  | _=>left
 | _=>left
def Za8{k:Ck}{t x:Expr}(h:Yk7 k t x=true):∃n b c a scope p,t= .Name n b/\x= .ListComp c a scope p/\k.sc.names.lookup n=some .cell:=by
 cases t with
 | Name n b=>
  cases x with
  | ListComp c a scope p=>show⟨_,_,_,_,_,_,rfl,rfl,Kj h⟩
  | _=>left
 | _=>left
def Zc8{k:Ck}{n:Expr}{a:List Comprehension}{p:Pos}(h:chkE k e (.ListComp n a scope p)=true):
  ∃l d c f j i t iter b,e= .comp l d c f j i/\a=[⟨t,iter,b,0⟩]:=by
 cases e with
 | comp l d c f j i=>
  let⟨_,_,_,_,m,h⟩:=Z08 h
  cases m
  let⟨g,rfl,h⟩:=Ys h
  let⟨t,iter,b,o⟩:=g
  let⟨rfl,_⟩:=Zh2 h
  show⟨_,_,_,_,_,_,_,_,_,rfl,rfl⟩
 | _=>left
def Zb4{k:Ck}{c:LQ}{e:E}{st:Stmt}(h:chkS k (.setL c e) st=true):∃es b p x pos,st= .Assign [.Tuple es b p] x pos/\(k.calm&&Zk2 k c es&&chkE k e x&&N5 x&&J6 x)=true:=by
 cases st with
 | Assign a x pos=>
  cases a with
  | nil=>left
  | cons t r=>
   cases t with
   | Tuple es b p=>
    cases r with
    | nil=>show⟨es,b,p,x,pos,rfl,h⟩
    | cons _ _=>left
   | _=>left
 | _=>left
def Zc5(c:Cfg)(o:LQ)(e:E):Z01 c (.setL o e):=by
 intro k Z l X st G h
 let⟨u,C,p,x,j,rfl,s⟩:=Zb4 h
 simp only[Bz9] at s
 let⟨⟨⟨⟨P,L⟩,O⟩,N⟩,J⟩:=s
 have T:∀t:Expr,swapsWithSole [t] x j.line X.env=pure false:=fun t=>Jb N
 have Q:swappedStores [.Tuple u C p] x X.env=pure none:=by
  cases x<;>first | rfl | cases J
 let⟨I,F,D⟩:=G.tgs o u L
 refine PS.imp (Zh1 (Zm c e k Z l X x G O).1 (Zg5 (w0:=l) (Yq8 (G.calm P) I F D)) (T _) Q rfl) fun R σ H zz119=>?_
 let⟨w,b,M,RR,S,q,A,q2,q3,q4⟩:=zz119
 refine Zy S q fun v m d y g r i B=>?_
 let⟨n,rfl,ds,W,V,U⟩:=Yw B
 show⟨m,b,y,n,ds,_,S.next g r,by rw[g.K,S.K,G.eK],i,W,V,U,fun f a Y z=>A f m a y g r Y z⟩
def Zp2(c:Cfg)(D:LQ)(e:E):Z01 c (.set D e):=by
  intro k Z U X st G h
  cases st with
  | Assign V x l=>
   match V,h with
   | [t],h=>
    change (_&&_)=true at h
    simp only[Bz9,Bool.or_eq_true,decide_eq_true_eq] at h
    let⟨⟨m,I⟩,h⟩:=h
    rcases h with(⟨hc,A⟩ | ⟨A,P⟩) | A
    rotate_left 2
    .let⟨n,F,T,r,a,p,rfl,rfl,B⟩:=Za8 A
     have Q:swapsWithSole [.Name n F] (.ListComp T r a p) l.line X.env=pure false:=by
      have hk:X.env.kindOf n=some .cell:=by
       unfold Env.kindOf
       rw[G.sc];show B
      have z0:(X.env.kindOf n==some NameKind.local)=false:=by rw[hk];rfl
      unfold swapsWithSole swapsWith
      simp only[z0,Bool.and_false,Bool.false_and]
     refine PS.imp (Zh1 (Zm c e k Z U X _ G I).1 (G.tgt D _ m) Q rfl rfl) fun R σ H zz120=>?_
     let⟨w,b,M,RR,S,q,J,q2,q3,q4⟩:=zz120
     refine Zy S q fun v u d C o y g K=>?_
     show⟨u,b,C,d,_,S.next o y,g,K,fun s f e' z=>J s u f C o y e' z⟩
    .have Q:swapsWithSole [t] x l.line X.env=pure false:=Jb hc
     have h2:swappedStores [t] x X.env=pure none:=by
      cases t with
      | Name n p=>cases x<;>rfl
      | Tuple es kk p=>
       have:J6 x=true:=A.resolve_left Bf9
       cases x<;>first | rfl | cases this
      | _=>show absurd m Bf9
     have h3:(assignEach [t] X.env).map (·.2)=[assign t X.env]:=by
      cases t with
      | Name n p=>rfl
      | Tuple es kk p=>rfl
      | _=>show absurd m Bf9
     refine PS.imp (Zh1 (Zm c e k Z U X x G I).1 (G.tgt D t m) Q h2 h3) fun R σ H zz121=>?_
     let⟨w,b,M,RR,S,q,J,q2,q3,q4⟩:=zz121
     refine Zy S q fun v u d C o y g K=>?_
     show⟨u,b,C,d,_,S.next o y,g,K,fun s f e' z=>J s u f C o y e' z⟩
    .match D,P,m with
     | [i],_,m=>
      let⟨n,F,T,r,a,p,rfl,rfl⟩:=Z84 A
      let⟨N',js,D,it,cd,e,W,j,L,rfl,rfl⟩:=Zc8 I
      change (_&&_)=true at I
      simp only[Bz9,decide_eq_true_eq] at I
      let⟨⟨⟨⟨⟨⟨⟨⟨Q,h2⟩,h3⟩,h4⟩,h5⟩,h6⟩,h7⟩,h8⟩,h9⟩:=I
      change (_&&_)=true at m
      simp only[Bz9,beq_iff_eq] at m
      change (_&&_&&_&&!_)=true at A;simp only[Bz9,beq_iff_eq,Bool.not_eq_true'] at A
      let⟨⟨⟨s1,s2⟩,s3⟩,s4⟩:=A
      have O:X.env.scope.names.lookup n=some .local:=by
       unfold Ck.loc at s2
       rw[G.sc];show Kj s2
      have Y:swapsWith (.ListComp T [⟨W,j,L,0⟩] a p) (some (.Name n F)) l.line X.env=pure true:=by
       unfold swapsWith
       have hb:(X.env.blockKind==ScopeKind.function)=true:=by
        unfold Env.blockKind
        rw[G.sc,s1];rfl
       have hk:(X.env.kindOf n==some NameKind.local)=true:=by
        unfold Env.kindOf
        rw[O];rfl
       have hp:(F.line==(Expr.ListComp T [⟨W,j,L,0⟩] a p).pos.line)=true:=by
        show(F.line==p.line)=true
        rw[s3];simp
       simp only[hb,hk,hp,s4,Bool.not_false,Bool.and_self]
      refine PS.imp ((O2 G Q h2 h3 h5 (Zj3 c it k Z U X W j G h4 h9) h6 h7 h8 (Zm c e) (Nn c cd)).2 i n F l (by rw[G.N];show m.1) O Y) fun R σ H zz122=>?_
      let⟨w,b,M,RR,S,q,J,q2,q3,q4⟩:=zz122
      have q:te c Z (.comp N' js D it cd e) b M fun d M1=>RR.nx (b.set i (some d)) M1:=q
      refine Zy S q fun v u d C o y g K=>?_
      show J _ u _ C o y ((S.env.ext o).set i g) K
     | [],P,_=>simp at P
     | _::_::_,P,_=>simp at P
   | [],h=>left
   | _::_::_,h=>left
  | _=>left
def Zo8(c:Cfg)(o i v:E):Z01 c (.put o i v):=by
  intro k Z N X st G h
  cases st with
  | Assign P x z0=>
   match P,h with
   | [t],h=>
    cases t with
    | Subscript l r p=>
     change (_&&_)=true at h
     simp only[Bz9] at h
     let⟨⟨⟨⟨h1,h2⟩,h3⟩,h4⟩,h5⟩:=h
     refine PS.imp (Ys1 (by have:=G.units;lia) (Zm c o k Z N X l G h4).1 (Zm c i k Z N X r G h5).1 (Zm c v k Z N X x G h3).1 (Jb h2)) fun R I H zz123=>?_
     let⟨w,s,M,RR,S,q,T,q2,q3,q4⟩:=zz123
     refine Zy S q fun vv w1 dv M1 f V y z1=>?_
     refine Zy (S.next f V) z1 fun vo w2 y0 M2 e r2 Q Y=>?_
     refine Zy ((S.next f V).next e r2) Y fun vi w3 di M3 d z u J=>?_
     split at J
     .let⟨A,rfl⟩:=Zk.mp (Q.ext d)
      rcases J with⟨xs,F,j,rfl,C,L,B⟩ | ⟨U,F,C,L,B,K⟩ | ⟨U,W,C,rfl,B,K⟩
      .cases Zf.mp u
       let⟨A,O,m,g⟩:=z.list C
       let⟨n,D⟩:=X3 z A m (g.set (y.ext (e.trans d)) j)
       show .inl ⟨_,O,F,j,rfl,rfl,m,by rw[g.length];show L,T I _ s _ (((f.trans e).trans d).trans n) D (S.env.ext (((f.trans e).trans d).trans n)) B⟩
      .let⟨A,O,m,g⟩:=z.dict C
       cases Qq L u
       let⟨n,D⟩:=Sm z A m (g.put (k:=F) (y.ext (e.trans d)))
       show .inr ⟨_,_,rfl,DPut.k (k:=F) m (by rw[g.length];show B),T I _ s _ (((f.trans e).trans d).trans n) D (S.env.ext (((f.trans e).trans d).trans n)) K⟩
      .let⟨A,O,m,g⟩:=z.dictP C
       let⟨b,rfl,hb⟩:=Jc u
       let⟨n,D⟩:=Q5 z A m (g.put (k:=W) (y.ext (e.trans d)))
       show .inr ⟨_,_,rfl,DPut.t (k:=W) m hb (by rw[g.length];show B),T I _ s _ (((f.trans e).trans d).trans n) D (S.env.ext (((f.trans e).trans d).trans n)) K⟩
     .exact J.elim
    | _=>left
   | [],h=>left
   | a::b::r,h=>cases a<;>left
  | _=>left
def Z95{k:Ck}{j:Tk}{f:Nat}{es:Es}{g:Nat}{s:Ss}{st:Stmt}(h:chkS k (.tryN j f es g s) st=true):∃l x d c a i pos,st= .Try [l] [.ExceptHandler (some (.Name x d)) none (c::a) i] [] [] pos/\
  (k.calm&&k.tries&&k.GN[g]?==some x&&k.glob x&&chkB {k with tries:=false,raises:=[]} j f es l&&
   V3 {k with calm:=false,loops:=true,tries:=false,raises:=[]} s (c::a))=true:=by
 cases st with
 | Try b p o f pos=>
  let⟨r,rfl,h⟩:=Ys (F:=fun b=>_) h
  let⟨e,rfl,h⟩:=Ys h
  let⟨m,n,q,i⟩:=e
  let⟨t,rfl,h⟩:=Z57 h
  let⟨x,d,rfl,h⟩:=Zn h
  let⟨rfl,h⟩:=B0 h
  let⟨rfl,h⟩:=Yq h
  let⟨rfl,h⟩:=Yq h
  let⟨c,a,rfl,h⟩:=Ba h
  show⟨_,_,_,_,_,_,_,rfl,h⟩
 | _=>left
def Bd{k:Ck}{g:Nat}{es:Es}{st:Stmt}(h:chkS k (.raise g es) st=true):∃x a ls b pos,st= .Raise (some (.Call (.Name x a) ls [] b)) none pos/\
  (k.calm&&k.raises.contains g&&k.GN[g]?==some x&&k.glob x&&decide (ls.length<=1)&&W1 k es ls)=true:=by
 cases st with
 | Raise f i pos=>
  let⟨e,rfl,h⟩:=Z57 h
  let⟨d,ls,c,b,rfl,h⟩:=Yi h
  let⟨x,a,rfl,h⟩:=Zn h
  let⟨rfl,h⟩:=Yq h
  let⟨rfl,h⟩:=B0 h
  show⟨_,_,_,_,_,rfl,h⟩
 | _=>left
set_option tactic.hygienic true in
mutual
theorem Yq2(c:Cfg):∀s:S,Z01 c s
 | .ret e,k,Z,p,X,C,G,h=>by
  cases C with
  | Return v E=>
   cases v with
   | some x=>show PS.imp (Yo4 (Zm c e k Z p X x G h).1) fun R σ H zz124=>by let⟨w,y,M,RR,S,q,I,F,N,L⟩:=zz124;show Zy S q F
   | none=>left
  | _=>left
 | .expr e,k,Z,p,X,C,G,h=>by
  cases C with
  | Expr x E=>
   change (_&&_)=true at h
   simp only[Bz9] at h
   show PS.imp (Yj2 (Zm c e k Z p X x G h.2).1 (Jb h.1)) fun R σ H zz125=>by let⟨w,y,M,RR,S,q,I,F,N,L⟩:=zz125;show Zy S q fun v u d B A D z0 q'=>I σ u y B A D (S.env.ext A) q'
  | _=>left
 | .setL tg e,k,Z,p,X,C,G,h=>Zc5 c tg e k Z p X C G h
 | .set tg e,k,Z,p,X,C,G,h=>Zp2 c tg e k Z p X C G h
 | .put o i v,k,Z,p,X,C,G,h=>Zo8 c o i v k Z p X C G h
 | .ite t a b,k,Z,p,X,C,G,h=>by
  cases C with
  | If x ls rs E=>
   change (_&&_)=true at h
   simp only[Bz9] at h
   let⟨⟨⟨I,F⟩,N⟩,L⟩:=h
   refine PS.imp (Yz8 ((Zm c t k Z p X x G I).2 F) (Xn c a k Z p X ls G N) (Xn c b k Z p X rs G L)) fun R σ H zz126=>?_
   let⟨w,y,M,RR,S,q,q1,q2,q3,q4⟩:=zz126
   refine⟨w,y,M,_,S,q,fun z V M1 K r1 T=>?_⟩
   have u0:∀{f:DS},f RR y M1->tFS p f R σ V.H:=fun hf=>Ng (S.next K r1) hf (fun l u j B A D O z=>q1 l u j B (K.trans A) D O z) (q2.ext K)
    (fun l u j B A D O z=>q3 l u j B (K.trans A) D O z) (fun l u j B A D O z=>q4 l u j B (K.trans A) D O z)
   cases z with
   | true=>
    rw[nh rfl] at T
    change if (true:Bool)=true then _ else _
    rw[nh rfl];show u0 T
   | false=>
    rw[ng Bf9] at T
    change if (false:Bool)=true then _ else _
    rw[ng Bf9];show u0 T
  | _=>left
 | .for_ tg it b,k,Z,p,X,C,G,h=>by
  cases C with
  | For t x ls P E=>
   cases P with
   | nil=>
    change (_&&_)=true at h
    simp only[Bz9] at h
    let⟨⟨⟨⟨⟨⟨I,F⟩,N⟩,L⟩,h5⟩,h6⟩,h7⟩:=h
    have hf:∀v,foldedSetIterable x X.env v=pure v:=by
     intro v
     cases x<;>first | rfl | cases N
    refine PS.imp (Y54 (G.po F) (G.calm I) (Zj3 c it k Z p X t x G h5 h7) (G.tgt tg t L) (Xn c b k Z p X ls G h6) hf) fun R σ H zz127=>?_
    let⟨w,y,M,RR,S,q,q1,q2,q3,q4⟩:=zz127
    refine⟨w,y,M,_,S,q,fun J V o0 xs M1 K r1 jk z=>?_⟩
    show Zq3 (S.next K r1) jk z (fun l u j B A D O z=>q1 l u j B (K.trans A) D O z) (q2.ext K)
   | cons _ _=>left
  | _=>left
 | .forK tg e b,k,Z,p,X,C,G,h=>by
  cases C with
  | For t x ls P E=>
   cases P with
   | nil=>
    change (_&&_)=true at h
    simp only[Bz9] at h
    let⟨⟨⟨⟨⟨I,F⟩,N⟩,L⟩,h5⟩,h6⟩:=h
    have hf:∀v,foldedSetIterable x X.env v=pure v:=by
     intro v
     cases x<;>first | rfl | cases N
    refine PS.imp (Ya6 (Y54 (G.po F) (G.calm I) (Yi7 (Zm c e k Z p X x G h5).1) (G.tgt tg t L) (Xn c b k Z p X ls G h6) hf)) fun R σ H zz128=>?_
    let⟨w,y,M,RR,S,q,q1,q2,q3,q4⟩:=zz128
    refine Zy S q fun v V d M1 K r1 r0 z=>?_
    split at z
    .let⟨hn,rfl⟩:=Zk.mp r0
     let⟨q0,z1,z2⟩:=z
     let⟨hM,vs,T,y2⟩:=r1.dict z1
     refine⟨_,vs,rfl,T,fun o nf=>?_⟩
     rename_i _ n
     have x2:Ext V (V.alloc (V.μ n) (.frz o (.dK vs))):=Yy T rfl
     have r2:RS (V.alloc (V.μ n) (.frz o (.dK vs))) (M1.set n (.fdc q0)):=r1.write hM rfl rfl T rfl ⟨o,vs,Zl,y2.ext x2⟩
     refine Zq3 (R:=Yi2 X R) (S.next (K.trans x2) r2) (Zy2 (w1:=V.alloc (V.μ n) (.frz o (.dK vs))) (n:=n) hn Zl) z2 (fun l u j B A D O ⟨v0,t1,t2⟩=>?_) (fun v u d B A D z0 ⟨v0,t1,t2⟩=>?_)
     .let⟨a1,a2,a3,a4⟩:=Ef hn T A D t1
      show⟨_,o,vs,a1,nf,q1 l _ j _ (K.trans a2) a4 (O.ext0 a3) t2⟩
     .let⟨a1,a2,a3,a4⟩:=Ef hn T A D t1
      show⟨_,o,vs,a1,nf,q2 v _ d _ (K.trans a2) a4 (z0.ext0 a3) t2⟩
    .exact z.elim
   | cons _ _=>left
  | _=>left
 | .while_ t b,k,Z,p,X,C,G,h=>by
  cases C with
  | While x ls P E=>
   cases P with
   | nil=>
    change (_&&_)=true at h
    simp only[Bz9] at h
    let⟨⟨⟨I,F⟩,N⟩,L⟩:=h
    refine PS.imp (Zz1 (G.po I) ((Zm c t k Z p X x G F).2 N) (Xn c b k Z p X ls G L)) fun R σ H zz131=>?_
    let⟨w,y,M,RR,S,q,q1,q2,q3,q4⟩:=zz131
    let⟨W,⟨m0,p0⟩,y0⟩:=q
    refine⟨fun m σ H=>∃U r Q,StOk p U r Q σ H/\Ext w U/\W m r Q,⟨m0,w,y,M,S,Ext.refl w,p0⟩,?_⟩
    rintro m t0 H2 ⟨U,r,Q,S2,x2,hW⟩
    refine⟨U,r,Q,_,S2,y0 m r Q hW,fun z w3 M3 x3 r3 y3=>?_⟩
    cases z with
    | false=>
     rw[ng Bf9] at y3 ⊢
     show q1 t0 w3 r M3 (x2.trans x3) r3 (S2.env.ext x3) y3
    | true=>
     rw[nh rfl] at y3 ⊢
     have x0:∀l u j B,Ext w3 u->RS u B->REnv u j l->(∃Y,Y<m/\W Y j B)->∃Y,Y<m/\∃U r Q,StOk p U r Q l u.H/\Ext w U/\W Y r Q:=
      fun l u j B A D O zz132=>by let⟨Y,l',z'⟩:=zz132;show⟨Y,l',u,j,B,⟨rfl,(S2.ext.trans x3).trans A,D,O⟩,(x2.trans x3).trans A,z'⟩
     refine⟨fun l H'=>∃Y,Y<m/\∃U r Q,StOk p U r Q l H'/\Ext w U/\W Y r Q,fun l H' z=>z,?_⟩
     show Ng (S2.next x3 r3) y3 x0 (fun v u d B A D z0 z'=>q2 v u d B ((x2.trans x3).trans A) D z0 z') (fun l u j B A D O z'=>q1 l u j B ((x2.trans x3).trans A) D O z') x0
   | cons _ _=>left
  | _=>left
 | .raise g es,k,Z,p,X,C,G,h=>by
  let⟨x,np,ls,cp,E,rfl,hs⟩:=Bd h
  simp only[Bz9,beq_iff_eq,decide_eq_true_eq] at hs
  let⟨⟨⟨⟨⟨I,F⟩,N⟩,L⟩,h5⟩,h6⟩:=hs
  show Be G I F N L h5 h6 (X8 c es k Z p X ls G h6).1
 | .tryN hh f es g s,k,Z,p,X,C,G,h=>by
  let⟨bs,x,np,s0,ss,hp,E,rfl,hs⟩:=Z95 h
  simp only[Bz9,beq_iff_eq] at hs
  let⟨⟨⟨⟨⟨I,F⟩,N⟩,L⟩,h7⟩,h8⟩:=hs
  show Za2 G I F N L h7 h8 (Xn c s)
theorem Xn(c:Cfg):∀s:Ss,Zp7 c s
 | .nil,k,Z,m,X,n,G,h=>by
  cases n with
  | nil=>
   refine PSs.imp Zk7 fun R t H zz133=>?_
   let⟨w,d,M,F,S,q,o,_⟩:=zz133
   have:=o t w d M (Ext.refl w) S.rs S.env q
   rw[S.heap] at this
   show this
  | cons _ _=>left
 | .cons s r,k,Z,m,X,n,G,h=>by
  cases n with
  | nil=>left
  | cons x B=>
   change (_&&_)=true at h
   simp only[Bz9] at h
   refine PSs.imp (Bx (Yq2 c s k Z m X x G h.1) (Xn c r k Z m X B G h.2)) fun R t H zz134=>?_
   let⟨w,d,M,F,S,q,o,y,v,u⟩:=zz134
   refine Ng S q ?_ y v u
   intro A I p J f C E D
   show Ng ⟨rfl,S.ext.trans f,C,E⟩ D (fun b g a l e i j z=>o b g a l (f.trans e) i j z) (y.ext f) (fun b g a l e i j z=>v b g a l (f.trans e) i j z) (fun b g a l e i j z=>u b g a l (f.trans e) i j z)
end
theorem FnOk.cx{P:Ud}{K:Ab}{k:Nat}{f:Uc}{c:FuncData}(F:FnOk P w K mg base CX0 k f c ps sp):FnOk P w K mg base CX k f c ps sp:=
 ⟨F.len,fun A a s H b g d Q E l m n i j=>Ki (F.run A a s H b g d Q E l m n i j) fun r p h=>by
  cases r with
  | error e=>show Bk h
  | ok o=>cases o<;>show h⟩
structure Prg(P:Ud)(w:Ue)(K:Ab)(mg:Str->Option Ua)(base:Uf)(c:Cfg)(FN GN BN:LS)(lv:Nat):Prop where
 hK:c.K=K
 fns:∀(f:Nat) (x:Str) (sp:DSp),FN[f]?=some x->c.Γ[f]?=some sp->∃(kk:Nat) (f:Uc) (fd:FuncData) (ps:LS) (ds:LW) (dvs:LV) (dD:LD) (sp0:DSp),FnOk P w K mg base (CX1 P w) kk f fd ps (spF K sp0)/\kk<=lv/\mg x=↑f/\Dm K (.ref f)=true/\
  Yg K fd ps ds/\Vals dvs ds/\(∀w:Vw,w.K=K->RDs w dD dvs)/\∀as M Q Z,sp as M Q Z->sp0 (as++dD) M Q Z
 flen:FN.length=c.Γ.length
 glb:∀(g:Nat) (x:Str) (d:D),GN[g]?=some x->c.G[g]?=some d->∃v u,mg x=some u/\RelV v u/\∀w:Vw,w.K=K->RD w d v
 blt:∀x,x∈BN->mg x=none
def start0(N:LS)(ds:LD):DEnv:=ds.map some++Ds (N.length - ds.length) none
def F8(r:RDs w ds vs):REnv w (start0 N ds) (L2.start N vs):=by
 refine⟨by unfold start0 L2.start;simp[r.length],fun i d e=>?_⟩
 unfold start0 at e
 unfold L2.start
 by_cases a:i<ds.length
 .rw[Dn ↥a,Ao] at e
  rw[Dn (by rw[Af,r.length];show a),Ao]
  cases b:ds[i]? with
  | none=>rw[b] at e;cases e
  | some h=>
   rw[b] at e
   have g:h=d:=by simpa using e
   subst g
   let⟨v,f,c⟩:=r.get b
   show⟨v,by rw[f];rfl,c⟩
 .rw[Dt ↥a] at e
  have:=Ac.mp e
  simp at this
section
variable{P:Ud}{w:Ue}{K:Ab}{mg:Str->Option Ua}{base:Uf}{c:Cfg}{FN GN BN:LS}{lv:Nat}{x qual:Str}{st:Stmt}{f:Uc}{fd:FuncData}{N ps:LS}
abbrev ck0(N:LS)(st:Stmt)(FN GN BN:LS):Ck:=⟨N,Zc st,FN,GN,BN,true,true,true,[],true,[]⟩
abbrev ck1(a:LQ)(N:LS)(st:Stmt)(FN GN BN:LS):Ck:=⟨N,Zc st,FN,GN,BN,true,true,true,a,true,[]⟩
def fn0(e:Prg P w K mg base c FN GN BN lv)(F:Fun K x qual st f fd)(S:FnScope N ps (Zc st)){body:Ss}(I:V3 (ck0 N st FN GN BN) body (Zr st)=true){sp:DSp}(C:∀ds M Q Z,sp ds M Q Z->ds.length=ps.length)
  (J:∀ds M Q Z,sp ds M Q Z->tss c noX body {nx:=fun _ M=>Q .non M,rt:=Q} (start0 N ds) M):FnOk P w K mg base (CX1 P w) (lv+1) f fd ps (spF K sp):=by
 refine FnOk.cx (F.ok S (fun z H Q E h=>?_) fun q A d s H z Q E v h=>?_)
 .let⟨w,ds,M,t,Z,_,_,_,r,h,_⟩:=h
  rw[r.length];show C _ _ _ _ h
 let⟨i,ds,M,t,Z,o,rfl,R,r,h,a,V⟩:=h
 have G:Good c (ck0 N st FN GN BN) noX i (cxOf CX0 P w K mg base N qual (Zc st) f q A d s i.H E).nox:=
  {hK:=e.hK.symm
   wK:=o.trans e.hK.symm
   N:=rfl
   nd:=S.nd
   sc:=rfl
   calm:=fun _=>rfl
   units:=v.units
   fns:=fun _ f x sp O L=>by
    let⟨B,f,fd,ps,ds,p,T,m,F,D,h⟩:=e.fns f x sp O L
    show⟨B,f,fd,ps,ds,p,T,m,F,v.mono D,h⟩
   flen:=e.flen
   glb:=e.glb
   blt:=e.blt
   exc:=⟨E0,fun _ _ _ _ _ _ _ h=>by
    let⟨_,_,_,_,_,_,_,_,_,_,_,_,_,_,_,h⟩:=h
    show h.elim,fun U W X h=>by
    let⟨_,_,_,_,_,_,_,_,_,_,_,_,_,h⟩:=h
    show h.elim⟩
   stk:=fun _=>⟨rfl,rfl⟩
   rai:=fun _ h=>absurd h Bf9
   po:=fun _=>PassesOwn.never
   fnc:=fun _ _=>rfl
   fno:=fun _ h=>by cases h}
 refine⟨_,Xn c body _ _ i _ _ G I,i,start0 N ds,M,{nx:=fun _ M=>t .non M,rt:=t},⟨rfl,Ext.refl i,R,F8 r⟩,J _ _ _ _ h,?_,a,?_,?_⟩
 .exact fun g l b u k n y j=>a .non l .non u k n (Zw.mpr rfl) j
 .exact fun g l b u k n y j=>j.elim
 .exact fun g l b u k n y j=>j.elim
def PrgR(P:Ud)(w:Ue)(K:Ab)(mg:Str->Option Ua)(base:Uf)(c:Cfg)(b:LQ)(lv:Nat):Prop:=∀g:Nat,b.contains g=true->∀C:Uc,c.G[g]?=some (.cls C)->∃(a:Nat) (f:Uc) (fd:FuncData),ExcMk K C f/\FnOk P w K mg base CX0 a f fd ["self","row"] (N1 K)/\a+1<=lv/\
 Yg K fd ["self","row"] [.none]/\Yg K fd ["self","row"] []/\ExcSet K C "row"
def fn1(e:Prg P w K mg base c FN GN BN lv){o:LQ}(Rr:PrgR P w K mg base c o lv)(F:Fun K x qual st f fd)(S:FnScope N ps (Zc st)){body:Ss}(X:V3 (ck1 o N st FN GN BN) body (Zr st)=true){sp:DSp}(U:∀ds M Q Z,sp ds M Q Z->ds.length=ps.length)
  (Y:∀ds M Q Z,sp ds M Q Z->tss c Z body {nx:=fun _ M=>Q .non M,rt:=Q} (start0 N ds) M):FnOk P w K mg base (CX1 P w) (lv+1) f fd ps (spF K sp):=by
 refine Ye7 F S (fun O H Q E h=>?_) fun B A d s H O Q E t h=>?_
 .let⟨w,ds,M,D,Z,_,_,_,r,h,_⟩:=h
  rw[r.length];show U _ _ _ _ h
 let⟨j,ds,M,D,Z,u,rfl,R,r,h,a,J⟩:=h
 have G:Good c (ck1 o N st FN GN BN) Z j (cxOf (CX1 P w) P w K mg base N qual (Zc st) f B A d s j.H E):=
  {hK:=e.hK.symm
   wK:=u.trans e.hK.symm
   N:=rfl
   nd:=S.nd
   sc:=rfl
   calm:=fun _=>rfl
   units:=t.units
   fns:=fun _ f x sp y v=>by
    let⟨q,f,fd,ps,ds,z,dD,n,F,V,h⟩:=e.fns f x sp y v
    show⟨q,f,fd,ps,ds,z,dD,n,F,t.mono V,h⟩
   flen:=e.flen
   glb:=e.glb
   blt:=e.blt
   exc:=⟨E,Yw7 E7,J⟩
   stk:=fun _=>⟨rfl,rfl⟩
   rai:=fun g T=>⟨⟨E,E7,J⟩,fun C W=>by
    let⟨q,f,fd,y,v,h3,h4,h5,h6⟩:=Rr g T C W
    show⟨q,f,fd,y,v,t.mono h3,h4,h5,h6⟩⟩
   po:=fun _=>PassesOwn.leaving
   fnc:=fun _ _=>rfl
   fno:=fun _ h=>by cases h}
 refine⟨_,Xn c body _ _ j _ _ G X,j,start0 N ds,M,{nx:=fun _ M=>D .non M,rt:=D},⟨rfl,Ext.refl j,R,F8 r⟩,Y _ _ _ _ h,?_,a,?_,?_⟩
 .exact fun i m b I l p L k=>a .non m .non I l p (Zw.mpr rfl) k
 .exact fun i m b I l p L k=>k.elim
 .exact fun i m b I l p L k=>k.elim
end
def Z89:DSp:=fun b M Q _=>∃a:List Int,b=[.ref 0]/\M=[.frz (a.map .int)]/\a.length<=63/\(∀i∈a,Bits bigN i)/\∀c,Q (.bl true) c
def Z06(w:Vw):∀a:List Int,RDs w (a.map .int) (a.map V.int)
 | []=>RDs.nil w
 | _::r=>RDs.cons (Zf.mpr rfl) (Z06 w r)
def Zx1{l:PySem.W.OpenLaw}{k:Nat}{XP:(Str->Option Ua)->Uf->Prop}{d:DefRec}{K:Params->Ab}{x:Str}(y:l.most=some 63)(g:d.params.defaults=[])(t:Room k callerA)
  (D:∀(w:Ue) (h:Uf),YP w h->(K w.params).In h)
  (F:∀(w:Ue) (mg:Str->Option Ua) (p:Uc) (h:Uf),(K w.params).In h->h.Ns mainGlobals mg->mg d.name=↑p->
   ∃m:FuncData,(∀(s:Ub) (u:Ua),BindsTo s m ⟨[u],[]⟩ [(x,u)])/\∀base:Uf,(K w.params).In base->base.Ns mainGlobals mg->FnOk l.prog w (K w.params) mg base (CX1 l.prog w) k p m [x] (spF (K w.params) Z89)):
  PySem.W.WalkO q loose XP YP l.row.toRowW d [] (fun f vs=>PySem.call f vs):=by
 refine Yu1 (n:=63) (k:=k) (x:=x) (CX:=fun w=>CX1 l.prog w) (sp:=fun w=>spF (K w.params) Z89) y 'd' g t D F (fun w H a b A C G E=>?_) fun w H s e Q h=>?_
 .have I:SqF (K w.params) H a (b.map V.int):=by
   rcases E with(h | ⟨o,h⟩) | h
   .rcases G a with z | ⟨o,O,z⟩
    .rw[z] at h;cases h
    .rw[z] at h;cases h
   .exact .inl ⟨o,h⟩
   .exact .inr (.inr h)
  refine⟨⟨K w.params,H,fun _=>a,1⟩,[.ref 0],[.frz (b.map .int)],fun d _=>d= .bl true,noX,rfl,rfl,⟨rfl,fun i j X U M L S R _=>?_,fun i Y e=>?_⟩,RDs.cons (Zk.mpr ⟨Nat.one_pos,rfl⟩) (RDs.nil _),⟨b,rfl,rfl,A,C,fun _=>rfl⟩,fun v P d Z _ _ r e=>?_,fun N T H' h=>?_⟩
  .have c:=(Ac.mp M).1
   have J:=(Ac.mp L).1
   simp at c J
   lia
  .have c:=(Ac.mp e).1
   have B:i=0:=by simp at c;show c
   subst B
   simp at e
   subst e
   show⟨_,I,Z06 _ b⟩
  .subst e
   show Xb.mp r
  .let⟨_,_,_,_,_,_,_,_,_,_,_,_,_,h⟩:=h
   show h.elim
 .let⟨_,_,_,_,_,_,_,_,_,_,_,_,_,_,_,h⟩:=h
  show h.elim
def bot:DSp:=fun _ _ _ _=>False
def Ent(K:Ab)(mg:Str->Option Ua)(x:Str):Prop:=∃(f:Uc) (b:FuncData) (a:LS),mg x=↑f/\Dm K (.ref f)=true/\Yg K b a []
section
variable{P:Ud}{w:Ue}{K:Ab}{mg:Str->Option Ua}{base:Uf}{Γ:List DSp}{G:LD}{FN GN BN:LS}{lv:Nat}
def Prg.zero(n:∀x∈FN,Ent K mg x)(k:FN.length=Γ.length)(m:∀sp∈Γ,sp=bot)(l:∀(g:Nat) (x:Str) (d:D),GN[g]?=some x->G[g]?=some d->∃v u,mg x=some u/\RelV v u/\∀w:Vw,w.K=K->RD w d v)(o:∀x∈BN,mg x=none):
  Prg P w K mg base ⟨K,Γ,G⟩ FN GN BN 0 where
 hK:=rfl
 fns:=fun f x sp q p=>by
  let⟨t,r,i,B,z,y⟩:=n x (Ax q)
  have j:sp=bot:=m sp (Ax p)
  subst j
  have c:∀a H Q E,¬spF K bot a H Q E:=fun a H Q E zz135=>by let⟨_,_,_,_,_,_,_,_,_,h,_⟩:=zz135;show h
  show⟨0,t,r,i,[],[],[],bot,⟨fun a H Q E h=>absurd h (c a H Q E),fun A b s H e C a Q E _ _ _ _ h=>absurd h (c a H Q E)⟩,nc _,B,z,y,.nil,fun w _=>RDs.nil w,fun _ _ _ _ h=>h.elim⟩
 flen:=k
 glb:=l
 blt:=o
def Prg.addD(j:Prg P w K mg base ⟨K,Γ,G⟩ FN GN BN lv)(n:Nat){x:Str}{a:DSp}{e d:Nat}{f:Uc}{i:FuncData}{dD:LD}(p:FN[n]?=some x)(F:FnOk P w K mg base (CX1 P w) e f i ps (spF K a))(z:e<=d)(v:lv<=d)(r:mg x=↑f)(l:Dm K (.ref f)=true)(u:Yg K i ps ds)
  (q:Vals dvs ds) (t:∀w:Vw,w.K=K->RDs w dD dvs):Prg P w K mg base ⟨K,Γ.set n (fun as M Q Z=>a (as++dD) M Q Z),G⟩ FN GN BN d where
 hK:=rfl
 fns:=fun m y c o b=>by
  by_cases g:n=m
  .subst g
   rw[p] at o
   cases o
   have s:n<Γ.length:=by rw[<-j.flen];show(Ac.mp p).1
   have b:(Γ.set n (fun as M Q Z=>a (as++dD) M Q Z))[n]?=some c:=b
   rw[Di s] at b
   cases b
   show⟨e,f,i,ps,ds,dvs,dD,a,F,z,r,l,u,q,t,fun as M Q Z h=>h⟩
  .have b:(Γ.set n (fun as M Q Z=>a (as++dD) M Q Z))[m]?=some c:=b
   rw[Db g] at b
   let⟨e,f,i,ps,ds,dvs,dD,k,F,l,h⟩:=j.fns m y c o b
   show⟨e,f,i,ps,ds,dvs,dD,k,F,nj l v,h⟩
 flen:=by rw[j.flen];simp
 glb:=j.glb
 blt:=j.blt
def Prg.add(i:Prg P w K mg base ⟨K,Γ,G⟩ FN GN BN lv)(n:Nat){x:Str}{d c:Nat}{f:Uc}{g:FuncData}(p:FN[n]?=some x)(F:FnOk P w K mg base (CX1 P w) d f g ps (spF K sp))(u:d<=c)(t:lv<=c)(q:mg x=↑f)(k:Dm K (.ref f)=true)(s:Yg K g ps []):
  Prg P w K mg base ⟨K,Γ.set n sp,G⟩ FN GN BN c where
 hK:=rfl
 fns:=fun m y b l a=>by
  by_cases e:n=m
  .subst e
   rw[p] at l
   cases l
   have r:n<Γ.length:=by rw[<-i.flen];show(Ac.mp p).1
   have a:(Γ.set n sp)[n]?=some b:=a
   rw[Di r] at a
   cases a
   show⟨d,f,g,ps,[],[],[],sp,F,u,q,k,s,.nil,fun w _=>RDs.nil w,fun A M Q Z h=>by rw[Du];show h⟩
  .have a:(Γ.set n sp)[m]?=some b:=a
   rw[Db e] at a
   let⟨d,f,g,ps,v,o,z,j,F,k,h⟩:=i.fns m y b l a
   show⟨d,f,g,ps,v,o,z,j,F,nj k t,h⟩
 flen:=by rw[i.flen];simp
 glb:=i.glb
 blt:=i.blt
end
def Ze{a:Nat}(h:Z7 M a=some xs):Z7 (M++N) a=some xs:=by
 unfold Z7 at *
 have b:a<M.length:=by
  cases e:M[a]? with
  | none=>rw[e] at h;cases h
  | some c=>show(Ac.mp e).1
 rw[Dn b];show h
def Z8{a:Nat}(h:Z4 M a=some xs):Z4 (M++N) a=some xs:=by
 unfold Z4 at *
 have b:a<M.length:=by
  cases e:M[a]? with
  | none=>rw[e] at h;cases h
  | some c=>show(Ac.mp e).1
 rw[Dn b];show h
def Q1{a:Nat}(h:Z9 M a=some xs):Z9 (M++N) a=some xs:=by
 unfold Z9 at *
 have b:a<M.length:=by
  cases e:M[a]? with
  | none=>rw[e] at h;cases h
  | some c=>show(Ac.mp e).1
 rw[Dn b];show h
def Zn0{a:Nat}(h:Zx M a=some xs):Zx (M++N) a=some xs:=by
 unfold Zx at *
 have b:a<M.length:=by
  cases e:M[a]? with
  | none=>rw[e] at h;cases h
  | some c=>show(Ac.mp e).1
 rw[Dn b];show h
def Z12(M:Z2)(c:Cell)(N:Z2):(M++c::N)[M.length]?=some c:=by simp
def Zm1(M N:Z2)(k:Nat):(M++N)[M.length+k]?=N[k]?:=by rw[Dt 'o'];congr 1;lia
def Zj(M:Z2)(xs:LD)(N:Z2):Z7 (M++ .lst xs::N) M.length=some xs:=by unfold Z7;rw[Z12]
def Za(M:Z2)(xs:LD)(N:Z2):Z4 (M++ .lst xs::N) M.length=some xs:=by unfold Z4;rw[Z12]
def Y5(M:Z2)(xs:KQ9)(N:Z2):Z9 (M++ .dct xs::N) M.length=some xs:=by unfold Z9;rw[Z12]
def Yj(M N:Z2)(k:Nat):Z4 (M++N) (M.length+k)=Z4 N k:=by unfold Z4;rw[Zm1]
def Zc4(M N:Z2)(k:Nat):Z9 (M++N) (M.length+k)=Z9 N k:=by unfold Z9;rw[Zm1]
def Xe(M:Z2)(c d:Cell)(N:Z2):(M++c::N).set M.length d=M++d::N:=by
 rw[List.set_append_right _ _ (nc _)];simp
def Rq(M N:Z2)(k:Nat)(d:Cell):(M++N).set (M.length+k) d=M++N.set k d:=by
 rw[List.set_append_right _ _ 'o'];congr 2;lia
def Z1{n:Nat}(h:Z4 M n=some xs):Z7 M n=some xs:=Yi4 h
def W5{a b:Nat}{c:Cell}(h:b≠a):Z7 (M.set b c) a=Z7 M a:=by unfold Z7;rw[Db h]
def Zb{a b:Nat}{c:Cell}(h:b≠a):Z4 (M.set b c) a=Z4 M a:=by unfold Z4;rw[Db h]
def Eu{a b:Nat}{c:Cell}(h:b≠a):Z9 (M.set b c) a=Z9 M a:=by unfold Z9;rw[Db h]
def Xo{n:Nat}(h:Z9 M n=some xs):n<M.length:=by
 unfold Z9 at h
 cases e:M[n]? with
 | none=>rw[e] at h;cases h
 | some c=>show(Ac.mp e).1
def Zo9{lo:Int}{n i:Nat}(h:i<n):(Js lo n)[i]?=some (.int (lo+i)):=by
 unfold Js;rw[Ao,List.getElem?_range h];rfl
def Rf(lo:Int)(n:Nat):(Js lo n).length=n:=by unfold Js;simp
def Vj{own:Own}{xs:LD}{g:LQ}{body:DS}{R:DEnds}{a:DEnv}{M:Z2}(I:Nat->DEnv->Z2->Prop)(h0:I 0 a M)(m:∀i a M,i<=xs.length->I i a M->Pp own xs M)
  (step:∀(i:Nat) (d:D) a M (C:DEnv->Z2->Prop),xs[i]?=some d->I i a M->(∀b c,I (i+1) b c->C b c)->tgD g d a fun f=>body {nx:=C,rt:=R.rt,bk:=R.nx,ct:=C} f M)
  (l:∀a M,I xs.length a M->R.nx a M):forD own xs g body xs R a M:=by
 have k:∀(j:Nat) a M,j<=xs.length->I (xs.length - j) a M->forD own xs g body (xs.drop (xs.length - j)) R a M:=by
  intro j
  induction j with
  | zero=>
   intro a M _ h
   rw[Nat.sub_zero] at h ⊢
   rw[List.drop_length]
   show⟨m _ a M (nc _) h,l a M h⟩
  | succ j p=>
   intro a M q h
   have n:xs.length - (j+1)<xs.length:='o'
   have e:xs.length - (j+1)+1=xs.length - j:='o'
   rw[Dz n]
   refine⟨m _ a M 'o' h,step _ _ a M _ (Ag n) h fun b c o=>?_⟩
   rw[e] at o ⊢
   show p b c 'o' o
 have:=k xs.length a M (nc _) (by rw[Nat.sub_self];show h0)
 rw[Nat.sub_self] at this
 show this
def Xm{lo:Int}{n:Nat}{g:LQ}{body:DS}{R:DEnds}{a:DEnv}{M:Z2}(I:Nat->DEnv->Z2->Prop)(h0:I 0 a M)
  (step:∀(i:Nat) a M (C:DEnv->Z2->Prop),i<n->I i a M->(∀b k,I (i+1) b k->C b k)->tgD g (.int (lo+i)) a fun c=>body {nx:=C,rt:=R.rt,bk:=R.nx,ct:=C} c M)
  (f:∀a M,I n a M->R.nx a M):forD .no (Js lo n) g body (Js lo n) R a M:=by
 refine Vj I h0 (fun _ _ _ _ _=>trivial) (fun i d a M C e l m=>?_) (fun a M h=>f a M (by rw[Rf] at h;show h))
 have j:i<n:=by
  have:=(Ac.mp e).1
  rwa[Rf] at this
 rw[Zo9 j] at e
 cases e
 show step i a M C j l m
def Ju{own:Own}{l:LQ}{n:DT}{m:DE}{z:Nat}{a:DEnv}(I:Nat->DEnv->Z2->Prop)(h0:I 0 a M)(q:∀i a M,i<=xs.length->I i a M->Pp own xs M)
  (step:∀(i:Nat) (d:D) a M (C:DEnv->Z2->Prop),xs[i]?=some d->I i a M->(∀c g,I (i+1) c g->C c g)->tgD l d a fun f=>n f M fun b t=>if b=true then
   m f t fun y g=>∃k,Z4 g z=some k/\k.length<sizeLine/\C f (g.set z (.lst (k++[y]))) else C f t)
  (p:∀a M,I xs.length a M->Q M):Np own xs l n m z xs a M Q:=by
 have o:∀(j:Nat) a M,j<=xs.length->I (xs.length - j) a M->Np own xs l n m z (xs.drop (xs.length - j)) a M Q:=by
  intro j
  induction j with
  | zero=>
   intro a M _ h
   rw[Nat.sub_zero] at h ⊢
   rw[List.drop_length]
   show⟨q _ a M (nc _) h,p a M h⟩
  | succ j u=>
   intro a M v h
   have r:xs.length - (j+1)<xs.length:='o'
   have e:xs.length - (j+1)+1=xs.length - j:='o'
   rw[Dz r]
   refine⟨q _ a M 'o' h,step _ _ a M (fun c g=>Np own xs l n m z (xs.drop (xs.length - (j+1)+1)) c g Q) (Ag r) h fun c g s=>?_⟩
   rw[e] at s ⊢
   show u c g 'o' s
 have:=o xs.length a M (nc _) (by rw[Nat.sub_self];show h0)
 rw[Nat.sub_self] at this
 show this
def J7{c:Cfg}{X:DX}{t:E}{b:Ss}{R:DEnds}{d:DEnv}{M:Z2}(I:DEnv->Z2->Prop)(g:DEnv->Z2->Nat)(h0:I d M)
  (step:∀d M,I d M->tt c X t d M fun r n=>if r=true then tss c X b {nx:=fun a f=>I a f/\g a f<g d M,rt:=R.rt,bk:=R.nx,ct:=fun a f=>I a f/\g a f<g d M} d n else R.nx d n):
  ts c X (.while_ t b) R d M:=by
 refine⟨fun m d M=>m=g d M/\I d M/\True,⟨_,rfl,h0,trivial⟩,?_⟩
 rintro m d M ⟨rfl,o,_⟩
 have e:∀h l,(fun(a:DEnv) (f:Z2)=>∃i,i<g h l/\i=g a f/\I a f/\True)=fun a f=>I a f/\g a f<g h l:=by
  intro h l
  funext a f
  apply propext
  constructor
  .rintro⟨i,k,rfl,j,_⟩;show⟨j,k⟩
  .rintro⟨k,j⟩;show⟨_,j,rfl,k,trivial⟩
 rw[e d M]
 show step d M o
def mulR{i j:Int}(b:-(2 ^ 64)<j)(a:j<2 ^ 64):IntMulOk i j:=CMul.ok (.inr ⟨b,a⟩)
def mulL{i j:Int}(b:-(2 ^ 64)<i)(a:i<2 ^ 64):IntMulOk i j:=CMul.ok (.inl ⟨b,a⟩)
def Zi{i j:Int}(c:0<j)(b:j<2 ^ 64):Zm7 i j:=by
 refine⟨'o',?_⟩
 have a:j.natAbs<2 ^ 64:='o'
 show Nat.lt_trans (N6 a 'd') 'd'
def Z0{n:Nat}(h:n<=16000000):n<=sizeLine:=by rw[Kz];lia
def Z3{n:Nat}(h:n<=16000000):n<sizeLine:=by rw[Kz];lia
section
variable{M:Z2}{Q:DK}{B:Bool->Prop}{i j:Int}{a b:Str}{p q:Bool}{xs ys:LD}{n m:Nat}{K:Ab}
def op_add_i:opD .add (.int i) (.int j) M Q=Q (.int (i+j)) M:=rfl
def op_add_s:opD .add (.str a) (.str b) M Q=(a.length+b.length<=sizeLine/\Q (.str (a++b)) M):=rfl
def op_add_t:opD .add (.tup xs) (.tup ys) M Q=(xs≠[]/\xs.length+ys.length<=sizeLine/\Q (.tup (xs++ys)) M):=rfl
def op_add_l:opD .add (.ref n) (.ref m) M Q=∃xs ys,Z4 M n=some xs/\Z4 M m=some ys/\xs.length+ys.length<=sizeLine/\Q (.ref M.length) (M++[.lst (xs++ys)]):=rfl
def op_sub_i:opD .sub (.int i) (.int j) M Q=Q (.int (i - j)) M:=rfl
def op_mul_i:opD .mul (.int i) (.int j) M Q=(IntMulOk i j/\Q (.int (i * j)) M):=rfl
def op_mul_l:opD .mul (.ref n) (.int i) M Q=∃xs,Z4 M n=some xs/\0<=i/\i<2 ^ 62/\xs.length * i.toNat<=sizeLine/\Q (.ref M.length) (M++[.lst (Ds i.toNat xs).flatten]):=rfl
def op_fdiv_i:opD .fdiv (.int i) (.int j) M Q=(Zm7 i j/\Q (.int (qdiv i j)) M):=rfl
def op_mod_i:opD .mod (.int i) (.int j) M Q=(j≠0/\Q (.int (qmod i j)) M):=rfl
def op_pow_i:opD .pow (.int i) (.int j) M Q=(CPow i j/\Q (.int (i ^ j.toNat)) M):=rfl
def op_and_i:opD .band (.int i) (.int j) M Q=Q (.int (Ma i j)) M:=rfl
def op_xor_i:opD .bxor (.int i) (.int j) M Q=Q (.int (Mb i j)) M:=rfl
def cm_lt_i:cmD M .lt (.int i) (.int j) B=B (decide (i<j)):=rfl
def cm_gt_i:cmD M .gt (.int i) (.int j) B=B (decide (j<i)):=rfl
def cm_ge_i:cmD M .ge (.int i) (.int j) B=B (decide (j<=i)):=rfl
def cm_eq{x y:D}:cmD M .eq x y B=eqD M x y B:=rfl
def cm_ne{x y:D}:cmD M .ne x y B=eqD M x y fun b=>B (!b):=rfl
def cm_in{x y:D}:cmD M .isin x y B=inQ M x y B:=rfl
def cm_notin{x y:D}:cmD M .notin x y B=inQ M x y fun b=>B (!b):=rfl
def cm_is_n:cmD M .is .non .non B=B true:=rfl
def cm_is_i:cmD M .is (.int i) .non B=B false:=rfl
def cm_is_s:cmD M .is (.str a) .non B=B false:=rfl
def cm_is_b:cmD M .is (.bl p) .non B=B false:=rfl
def cm_is_t:cmD M .is (.tup xs) .non B=B false:=rfl
def cm_is_r:cmD M .is (.ref n) .non B=B false:=rfl
def eq_i:eqD M (.int i) (.int j) B=B (decide (i=j)):=rfl
def eq_s:eqD M (.str a) (.str b) B=B (decide (a=b)):=rfl
def eq_b:eqD M (.bl p) (.bl q) B=B (decide (p=q)):=rfl
def eq_nn:eqD M .non .non B=B true:=rfl
def eq_is:eqD M (.int i) (.str b) B=B false:=rfl
def eq_si:eqD M (.str b) (.int i) B=B false:=rfl
def tru_b:truD M (.bl p) B=B p:=rfl
def tru_i:truD M (.int i) B=B (i !=0):=rfl
def tru_n:truD M .non B=B false:=rfl
def tru_t:truD M (.tup xs) B=B (!xs.isEmpty):=rfl
def ix_t:ixD M (.tup xs) (.int i) F=∃d,atI xs i=some d/\F d:=rfl
def ix_g:ixD M (.gtup xs) (.int i) F=∃d,atI xs i=some d/\F d:=rfl
def ix_s:ixD M (.str a) (.int i) F=(a.length<=sizeLine/\∃c,atI a.cps.toList i=some c/\F (.str ⟨#[c]⟩)):=rfl
def ix_l{k:Nat}(h:Z7 M n=some xs){d:D}(c:xs[k]?=some d)(e:F d):ixD M (.ref n) (.int k) F:= .inl ⟨xs,k,d,rfl,h,Xq c,e⟩
def Tf(h:Z7 M n=some xs){d:D}(c:atI xs i=some d)(e:F d):ixD M (.ref n) (.int i) F:= .inl ⟨xs,i,d,rfl,h,c,e⟩
def ix_d{k:D}{y:Key}(h:Z9 M n=some kvs)(c:keyD k=some y){d:D}(e:valD kvs y=some d)(f:F d):ixD M (.ref n) k F:= .inr (.inl ⟨kvs,y,d,Ye9 h,c,e,f⟩)
def ix_p{ks:List Key}(h:Zx M n=some kvs){d:D}(c:valD kvs ks=some d)(e:F d):ixD M (.ref n) (.tup (ks.map kD)) F:= .inr (.inr ⟨kvs,ks,d,h,rfl,c,e⟩)
def ix_f{k:D}{y:Key}(h:M[n]?=some (.fdc kvs))(c:keyD k=some y){d:D}(e:valD kvs y=some d)(f:F d):ixD M (.ref n) k F:= .inr (.inl ⟨kvs,y,d,by unfold Zc1;rw[h],c,e,f⟩)
def sl_s{lo hi:Option Int}:slD (.str a) lo hi M Q=(a.length<=sizeLine/\Q (.str (Lz a lo hi)) M):=rfl
def sl_t{lo hi:Option Int}:slD (.tup xs) lo hi M Q=(¬(HT.sIx xs.length 0 lo=0/\HT.sIx xs.length xs.length hi=xs.length)/\Q (.tup (cutD xs lo hi)) M):=rfl
def sl_l{lo hi:Option Int}:slD (.ref n) lo hi M Q=∃xs,Z7 M n=some xs/\Q (.ref M.length) (M++[.lst (cutD xs lo hi)]):=rfl
def tyNon:Ty->Bool:=fun _=>false
def tyBl:Ty->Bool
 | .bool=>true | .int=>true | _=>false
def tyInt:Ty->Bool
 | .int=>true | _=>false
def tyStr:Ty->Bool
 | .str=>true | _=>false
def tyTup:Ty->Bool
 | .tuple=>true | _=>false
def tyLst:Ty->Bool
 | .list=>true | _=>false
def tyDct:Ty->Bool
 | .dict=>true | _=>false
def Q9{d:D}{t:Ty}{s:String}{v:Bool}(o:∀e C u r,d≠ .exn e C u r)(g:tyD M d=some s)(f:Kd K (.type s) (.type (Ym t))=some v):isD K M d (.ty (Ym t)) B=B v:=by
 have:isD K M d (.ty (Ym t)) B=∃c b,tyD M d=some c/\Kd K (.type c) (.type (Ym t))=some b/\B b:=by
  cases d<;>first | rfl | show absurd rfl (o _ _ _ _)
 rw[this]
 apply propext
 constructor
 .rintro⟨c,b,l,k,h⟩
  rw[g] at l
  cases l
  rw[f] at k
  cases k
  show h
 .intro h;show⟨s,v,g,f,h⟩
def is_non{t:Ty}:isD K M .non (.ty (Ym t)) B=B (tyNon t):=Q9 (fun _ _ _ _ h=>nomatch h) rfl (by cases t<;>rfl)
def is_bl{t:Ty}:isD K M (.bl p) (.ty (Ym t)) B=B (tyBl t):=Q9 (fun _ _ _ _ h=>nomatch h) rfl (by cases t<;>rfl)
def is_int{t:Ty}:isD K M (.int i) (.ty (Ym t)) B=B (tyInt t):=Q9 (fun _ _ _ _ h=>nomatch h) rfl (by cases t<;>rfl)
def is_str{t:Ty}:isD K M (.str a) (.ty (Ym t)) B=B (tyStr t):=Q9 (fun _ _ _ _ h=>nomatch h) rfl (by cases t<;>rfl)
def is_tup{t:Ty}:isD K M (.tup xs) (.ty (Ym t)) B=B (tyTup t):=Q9 (fun _ _ _ _ h=>nomatch h) rfl (by cases t<;>rfl)
def Y41{t:Ty}(h:Z4 M n=some xs):isD K M (.ref n) (.ty (Ym t)) B=B (tyLst t):=Q9 (s:="list") (fun _ _ _ _ h=>nomatch h) (by simp only[tyD,G9 h]) (by cases t<;>rfl)
def Ym4{t:Ty}(h:Z9 M n=some kvs):isD K M (.ref n) (.ty (Ym t)) B=B (tyDct t):=Q9 (s:="dict") (fun _ _ _ _ h=>nomatch h) (by simp only[tyD,Vy h]) (by cases t<;>rfl)
def Zg(h:Z7 M n=some xs)(c:Q (.int xs.length) M):bfD K .len [.ref n] M Q:= .inl ⟨xs,h,c⟩
def bf_len_t:bfD K .len [.tup xs] M Q=Q (.int xs.length) M:=rfl
def bf_len_s:bfD K .len [.str a] M Q=(a.length<=sizeLine/\Q (.int a.length) M):=rfl
def bf_is{d c:D}:bfD K .isinst [d,c] M Q=isD K M d c fun b=>Q (.bl b) M:=rfl
def bf_min:bfD K .min2 [.int i,.int j] M Q=Q (.int (if j<i then j else i)) M:=rfl
def bf_max:bfD K .max2 [.int i,.int j] M Q=Q (.int (if j >i then j else i)) M:=rfl
def bf_dict:bfD K .dict1 [.ref n] M Q=((∃xs,Z9 M n=some xs/\Q (.ref M.length) (M++[.dct xs]))\/(∃ps:KQ9,Z7 M n=some (Vl ps)/\ps.length<sizeLine/\Q (.ref M.length) (M++[.dct (Ri ps)]))):=rfl
def bf_int:bfD K .int1 [.bl p] M Q=Q (.int (if p then 1 else 0)) M:=rfl
def at2_xy{x y:D}:at2 [x,y] F=F x y:=rfl
def onRef_r:Qz (.ref n) F=F n:=rfl
def on_ref:Qz (.ref n) F=F n:=rfl
def set_f:setD false n M Q=∃ks:List Key,Z7 M n=some (ks.map kD)/\ks.length+1<scanBound/\∀c:List Key,c.Nodup->(∀k,k∈c↔k∈ks)->Q (.int c.length) M:=rfl
def ati0{c:Type}{x:c}{l:List c}:atI (x::l) 0=some x:=Xq (j:=0) rfl
def ati1{c:Type}{x y:c}{l:List c}:atI (x::y::l) 1=some y:=Xq (j:=1) rfl
def ati2{c:Type}{x y z:c}{l:List c}:atI (x::y::z::l) 2=some z:=Xq (j:=2) rfl
def ofS_inj{a b:String}:(Str.ofString a=Str.ofString b)=(a=b):=by
 apply propext
 constructor
 .intro h
  rw[Str.ofString_eq_toList,Str.ofString_eq_toList] at h
  have h1:=congrArg (fun s:Str=>s.cps.toList) h
  simp only at h1
  have inj:∀{l m:List Char},l.map Char.toNat=m.map Char.toNat->l=m:=by
   intro l
   induction l with
   | nil=>intro m h;cases m<;>simp_all
   | cons c l ih=>
    intro m h
    cases m with
    | nil=>simp at h
    | cons e m=>
     rw[De,De,List.cons.injEq] at h
     rw[ih h.2,Char.toNat_inj.mp h.1]
  show String.toList_inj.mp (inj h1)
 .intro h;rw[h]
def mt_setd_r{t z:D}:mtD .setd (.ref n) [t,z] M Q=∃(kvs:List (List Key×D)) (ks:List Key),Zx M n=some kvs/\t= .tup (ks.map kD)/\kvs.length<sizeLine/\(∀d,valD kvs ks=some d->Q d M)/\(valD kvs ks=none->Q z (M.set n (.dcp (putD kvs ks z)))):=rfl
def ati3{c:Type}{x y z u:c}{l:List c}:atI (x::y::z::u::l) 3=some u:=Xq (j:=3) rfl
def ati4{c:Type}{x y z u v:c}{l:List c}:atI (x::y::z::u::v::l) 4=some v:=Xq (j:=4) rfl
def ati5{c:Type}{x y z u v w:c}{l:List c}:atI (x::y::z::u::v::w::l) 5=some w:=Xq (j:=5) rfl
def mk_setd:mtK .setd (.ref n) M=((Zx M n).isSome=true):=rfl
def mt_append_r{d:D}:mtD .append (.ref n) [d] M Q=∃xs,Z4 M n=some xs/\xs.length<sizeLine/\Q .non (M.set n (.lst (xs++[d]))):=rfl
def mt_clearD_r:mtD .clearD (.ref n) [] M Q=∃kvs,Z9 M n=some kvs/\Q .non (M.set n (.dct [])):=rfl
def mt_get2_r{k z:D}:mtD .get2 (.ref n) [k,z] M Q=∃kvs y,Z9 M n=some kvs/\keyD k=some y/\Q ((valD kvs y).getD z) M:=rfl
def mt_pop_r:mtD .pop0 (.ref n) [] M Q=∃xs d,Z4 M n=some xs/\xs[xs.length - 1]?=some d/\Q d (M.set n (.lst xs.dropLast)):=rfl
def mt_clear_r:mtD .clear (.ref n) [] M Q=∃xs,Z4 M n=some xs/\Q .non (M.set n (.lst [])):=rfl
def mt_extend_r{m:Nat}:mtD .extend (.ref n) [.ref m] M Q=∃xs ys,Z4 M n=some xs/\Z4 M m=some ys/\xs.length+ys.length<=sizeLine/\Q .non (M.set n (.lst (xs++ys))):=rfl
def mk_extend:mtK .extend (.ref n) M=((Z7 M n).isSome=true):=rfl
def mk_append:mtK .append (.ref n) M=((Z7 M n).isSome=true):=rfl
def mk_pop:mtK .pop0 (.ref n) M=((Z7 M n).isSome=true):=rfl
def mk_clear:mtK .clear (.ref n) M=((Z7 M n).isSome=true):=rfl
def mk_clearD:mtK .clearD (.ref n) M=((Z9 M n).isSome=true):=rfl
def mk_get2:mtK .get2 (.ref n) M=((Z9 M n).isSome=true):=rfl
def tg_one{k:Nat}{d:D}{c:DEnv}:tgD [k] d c F=F (c.set k (some d)):=by cases d<;>rfl
def tg_two{k l:Nat}{d e:D}{c:DEnv}:tgD [k,l] (.tup [d,e]) c F=F ((c.set k (some d)).set l (some e)):=by
 show([d,e].length=[k,l].length/\F _)=_
 simp
def it_r:itD M (.ref n) R=∃xs,Z7 M n=some xs/\R (.lst n) xs:=rfl
def it_t:itD M (.tup xs) R=R .no xs:=rfl
def it_g:itD M (.gtup xs) R=R .no xs:=rfl
def key_i:keyD (.int i)=some (.inl i):=rfl
def key_s:keyD (.str a)=some (.inr a):=rfl
def in_ss:inQ M (.str a) (.str b) B=B (!(Lm b a 0 b.length 1).isEmpty):=rfl
end
def Z5{a:Type}{o:Option a}{x:a}(h:o=some x):o.isSome=true:=by rw[h];rfl
abbrev vs4:LW:=[.type "ValueError",.type "Exception",.type "BaseException",.type "object"]
def mro4{K:Ab}{f q:Str}{g:LW}{d:LS}{a:LW}{b:Option Bool}{p:Option Uc}{o n m k j:Option Ua}{i:String}
  (l:K.lookup C=some (excClassObj f q C N g (.ref J::vs4) true d a h b p o n m k j i)):∃c,Lw K C=some c/\c.hasDict=true/\c.mro=[.ref C,.ref J]++vs4:=by
 have e:Lw K C=some {name:=f,bases:=g,mro:= .ref C::(.ref J::vs4),ns:=N,qualname:=q,hasDict:=true,slotNames:=d,subclasses:=a,abstract:=h,collection:=b,hasDel:=false}:=by
  unfold Lw
  rw[l]
 show⟨_,e,rfl,rfl⟩
def Zt3{K:Ab}{C J f:Uc}{d q:Str}{m:LW}{c:LS}{a:LW}{n:Bool}{b:Option Bool}{k:Option Uc}{j i h g e:Option Ua}
  (l:K.lookup C=some (excClassObj d q C N m (.ref J::vs4) true c a n b k j i h g e "ValueError.__new__")) (hi:Ho K (.ref C) "__init__"=some (↑f)) (p:PySem.W.isFn K (.ref f)=true) (o:Dm K (.ref C)=true):ExcMk K C f where
 cls:=⟨d,q,N,m,_,true,c,a,n,b,k,j,i,h,g,e,l,rfl,rfl,rfl,rfl⟩
 init:=hi
 fn:=p
 kp:=o
def Zq6{K:Ab}{f q:Str}{d:LS}{a:LW}{b:Option Bool}{s:Option Uc}{k j i h g:Option Ua}
  (l:K.lookup C=some (excClassObj f q C N u (.ref J::vs4) true d a w b s k j i h g e)) (n:Ho K (.ref C) "row"=some none) (m:Ho K (.ref C) "__setattr__"=some (some (.builtin "object.__setattr__"))):ExcSet K C "row" where
 cls:=by
  let⟨t,r,p,o⟩:=mro4 l
  refine⟨t,[.ref C,.ref J],r,p,o,fun v c=>?_⟩
  simp only[An,Df,or_false] at c
  rcases c with rfl | rfl
  .exact⟨_,rfl⟩
  .exact⟨_,rfl⟩
 no:=n
 set:=m
def Y87(st:Stmt):Bool:=on1 (Zr st) fun s=>Yd3 s fun b v=>on1 b fun t=>Ze0 t fun l g _=>X7 l fun a=>X7 v fun d=>a=="self"&&g=="row"&&d=="row"
def Zc9{st:Stmt}(h:Y87 st=true):∃i f c b,Zr st=[.Assign [.Attribute (.Name "self" i) "row" f] (.Name "row" c) b]:=by
 let⟨s,e,p⟩:=Ys h
 let⟨q,v,b,rfl,o⟩:=Ep p
 let⟨t,rfl,n⟩:=Ys o
 let⟨l,g,f,rfl,m⟩:=Pt n
 let⟨a,i,rfl,k⟩:=Zn m
 let⟨d,c,rfl,j⟩:=Zn k
 rw[Bz9,Bz9,beq_iff_eq,beq_iff_eq,beq_iff_eq] at j
 let⟨⟨rfl,rfl⟩,rfl⟩:=j
 show⟨_,_,_,_,e⟩
def Y93{P:Ud}{w:Ue}{K:Ab}{mg:Str->Option Ua}{base:Uf}{st:Stmt}{f:Uc}{name a:Str}{o n c m b p x:Ua}{q od:Option Uc}{g:Array (Option Ua)}
  (z:K.lookup f=some ⟨x,od,.func (Hj name a (Yr st) (Zr st) (Zc st) o n c m q b p),g⟩) (l:Kf K b a=true) (S:FnScope ["self","row"] ["self","row"] (Zc st)) (B:Y87 st=true)
  (F:(Zc st).names.lookup ("self":Str)=some .local) (D:(Zc st).names.lookup ("row":Str)=some .local):
  FnOk P w K mg base CX0 1 f (Hj name a (Yr st) (Zr st) (Zc st) o n c m q b p) ["self","row"] (N1 K):=by
 refine Yg9 z l S (fun r H Q E zz136=>by let⟨e,C,y,h,_⟩:=zz136;rw[h];rfl) fun A d s H r Q E O j=>?_
 let⟨e,C,y,rfl,v,u,t⟩:=j
 let⟨N,M,L,J,G⟩:=Zc9 B
 rw[G]
 refine⟨_,Bx (Yn2 (Zj7 (i:=0) rfl (.inl F)) (Zj7 (i:=1) rfl (.inl D)) rfl) Zk7,?_⟩
 show⟨y,rfl,.ref e,rfl,e,C,rfl,v,u,fun I k=>t I k⟩
def Prg.up{P:Ud}{K:Ab}{c:Cfg}{j i k:LS}{g a:Nat}(b:Prg P w K mg base c j i k g)(h:g<=a):Prg P w K mg base c j i k a where
 hK:=b.hK
 fns:=fun m y l t s=>by
  let⟨o,f,q,n,u,e,v,d,F,p,r⟩:=b.fns m y l t s
  show⟨o,f,q,n,u,e,v,d,F,nj p h,r⟩
 flen:=b.flen
 glb:=b.glb
 blt:=b.blt
def PrgR.none{P:Ud}{K:Ab}{c:Cfg}{a:Nat}:PrgR P w K mg base c [] a:=fun _ h=>absurd h Bf9
def PrgR.one{P:Ud}{K:Ab}{c:Cfg}{b n:Nat}{B f:Uc}{a:FuncData}(h:c.G[n]?=some (.cls B))(p:ExcMk K B f)(o:FnOk P w K mg base CX0 1 f a ["self","row"] (N1 K))(m:2<=b)(l:Yg K a ["self","row"] [.none])(k:Yg K a ["self","row"] [])(j:ExcSet K B "row"):
  PrgR P w K mg base c [n] b:=fun g i C d=>by
 have e:g=n:=by simpa using i
 subst e
 rw[h] at d
 cases d
 show⟨1,f,a,p,o,m,l,k,j⟩
def Rest(c:Cfg)(X:DX)(r:Ss)(R:DEnds)(a:DEnv)(M:Z2):Prop:=tss c X r R a M
def tss_nil{c:Cfg}{a:DEnv}:tss c X .nil R a M=R.nx a M:=rfl
def tss_cons{c:Cfg}{s:S}{b:DEnv}:tss c X (.cons s r) R b M=ts c X s {R with nx:=fun a d=>Rest c X r R a d} b M:=rfl
def Qk{c:Cfg}{X:DX}{r:Ss}{R:DEnds}{a:DEnv}{M:Z2}(h:tss c X r R a M):Rest c X r R a M:=h
def Y73{a:Type}{P:List a->Prop}(h:P [])(l:List a)(e:l.length=0):P l:=by
 cases l with
 | nil=>show h
 | cons _ _=>cases e
def Z44{b:Type}{n:Nat}{P:List b->Prop}(h:∀a l,l.length=n->P (a::l))(l:List b)(e:l.length=n+1):P l:=by
 cases l with
 | nil=>cases e
 | cons a r=>show h a r (Nat.succ.inj e)
def Y38{b:Type}{P:List b->Prop}(h:∀a,P [a]):∀l:List b,l.length=1->P l:=Z44 fun a=>Y73 (h a)
def Z02{c:Type}{P:List c->Prop}(h:∀a b,P [a,b]):∀l:List c,l.length=2->P l:=Z44 fun a=>Y38 (P:=fun l=>P (a::l)) (h a)
def Y57{d:Type}{P:List d->Prop}(h:∀a b c,P [a,b,c]):∀l:List d,l.length=3->P l:=Z44 fun a=>Z02 (P:=fun l=>P (a::l)) (h a)
def Zg9{a:Type}{P:a->Prop}:∀x∈([]:List a),P x:=fun _ h=>absurd h Df
def all_cons{b:Type}{P:b->Prop}{a:b}{l:List b}(h:P a)(t:∀x∈l,P x):∀x∈a::l,P x:=fun x c=>(An.mp c).elim (fun e=>e ▸ h) (t x)
def Jq{K:Ab}{b:FuncData}{n:Nat}(h:∀s:Ub,K.In s.heap->∀us:LW,us.length=n->BindsTo s b ⟨us,[]⟩ (ps.zip (us++[])))(e:ps.length=n):Yg K b ps []:=fun s us c a=>h s c us (by rw[Du,e] at a;show a)
def Ct{K:Ab}{b:FuncData}{d:Ua}{n:Nat}(h:∀s:Ub,K.In s.heap->∀us:LW,us.length=n->BindsTo s b ⟨us,[]⟩ (ps.zip (us++[d])))(e:ps.length=n+1):Yg K b ps [d]:=fun s us c a=>h s c us (by rw[Ae,e] at a;show Nat.succ.inj a)
end U
namespace GT
def Zz5:∀{n:Nat} {B:LQ},B.Nodup->(∀x∈B,x<n)->B.length<=n:=by
 intro n B h1 h2
 have:B.length<=(Ik n).length:=List.Nodup.length_le_of_subset h1 (fun x hx=>Il.mpr (h2 x hx))
 simpa using this
end GT
namespace ND
def Gy(N:Nat)(l:LQ)(nd:l.Nodup)(h:∀x∈l,x<N):l.length<=N:=by
 have:l.length<=(Ik N).length:=List.Nodup.length_le_of_subset nd (fun x hx=>Il.mpr (h x hx))
 simpa using this
end ND
namespace LN
inductive Orb (J:Nat->Option Nat):Nat->Nat->Prop
 | refl (p:Nat):Orb J p p
 | step {p q r:Nat}:J p=some q->Orb J q r->Orb J p r
def Orb.trans{J:Nat->Option Nat}{p q r:Nat}(h:Orb J p q)(g:Orb J q r):Orb J p r:=by
 induction h with
 | refl _=>show g
 | step e _ a=>show .step e (a g)
def Ln(J:Nat->Option Nat)(n:Nat)(m:Nat->Option Nat):Prop:=∀p g,m p=some g->p<n/\(J p=none->g=p)/\(∀q,J p=some q->m q=some g)/\Orb J p g
def Lk(J:Nat->Option Nat):Nat->LQ->Nat->Prop
 | s,[],p=>s=p
 | s,x::r,p=>s=x/\∃q,J x=some q/\Lk J q r p
def Lk.snoc{J:Nat->Option Nat}{p q:Nat}(e:J p=some q):∀{s:Nat} {P:LQ},Lk J s P p->Lk J s (P++[p]) q
 | s,[],h=>⟨h,q,e,rfl⟩
 | s,x::r,zy4=>by
  let⟨c,t,b,a⟩:=zy4
  show⟨c,t,b,Lk.snoc e a⟩
def Lk.next{J:Nat->Option Nat}:∀{s p:Nat} {P:LQ},Lk J s P p->∀x∈P,∃q,J x=some q/\(q∈P\/q=p)/\Orb J x p
 | s,p,[],h,x,b=>by cases b
 | s,p,y::r,h,x,b=>by
  let⟨rfl,t,c,a⟩:=h
  have d:Orb J t p:=by
   cases r with
   | nil=>rw[show t=p from a];show .refl _
   | cons z r=>
    let⟨_,_,_,h⟩:=Lk.next a z Bs
    rw[a.1];show h
  rcases An.mp b with rfl | b
  .refine⟨t,c,?_,.step c d⟩
   cases r with
   | nil=>show .inr a
   | cons z r=>show .inl (Av _ (by rw[a.1];show Bs))
  .let⟨q,g,f,e⟩:=Lk.next a x b
   show⟨q,g,f.imp (Av _) id,e⟩
def land(m:Nat->Option Nat)(P:LQ)(p g:Nat):Nat->Option Nat:=fun x=>if x∈P then some g else if x=p then some g else m x
def Ln.land{J:Nat->Option Nat}{n s p:Nat}{m:Nat->Option Nat}{P:LQ}(h:Ln J n m)(k:Lk J s P p)(hn:∀x∈P,x<n/\m x=none)(hp:p<n)
  (stop:(m p).isSome=true\/p∈P\/J p=none):Ln J n (land m P p ((m p).getD p))/\(land m P p ((m p).getD p) s).isSome=true/\∀x,(m x).isSome=true->(land m P p ((m p).getD p) x).isSome=true:=by
 have og:Orb J p ((m p).getD p):=by
  cases e:m p with
  | none=>show .refl _
  | some g=>show(h p g e).2.2.2
 refine⟨fun x g hx=>?_,?_,fun x hx=>?_⟩
 .unfold LN.land at hx
  split at hx
  .rename_i hP
   cases hx
   let⟨q,a1,a2,a3⟩:=k.next x hP
   refine⟨(hn x hP).1,fun z=>(by rw[a1] at z;cases z),fun q' hq=>?_,a3.trans og⟩
   rw[a1] at hq
   cases hq
   unfold LN.land
   rcases a2 with a2 | a2
   .rw[nh a2]
   .split
    .rfl
    .first | rfl | rw[nh a2]
  .rename_i hP
   split at hx
   .rename_i ex
    subst ex
    cases hx
    refine⟨hp,fun z=>?_,fun q hq=>?_,og⟩
    .cases e:m x with
     | none=>rfl
     | some g=>show(h x g e).2.1 z
    .cases e:m x with
     | none=>
      rcases stop with z | z | z
      .rw[e] at z;cases z
      .exact absurd z hP
      .rw[hq] at z;cases z
     | some g=>
      have:=(h x g e).2.2.1 q hq
      unfold LN.land
      show(if q∈P then some g else if q=x then some g else m q)=some g
      split
      .rfl
      .split
       .rfl
       .exact this
   .rename_i ex
    let⟨b1,b2,b3,b4⟩:=h x g hx
    refine⟨b1,b2,fun q hq=>?_,b4⟩
    have hm:=b3 q hq
    unfold LN.land
    split
    .rename_i hqP
     rw[(hn q hqP).2] at hm
     cases hm
    .split
     .rename_i eq
      subst eq
      rw[hm];rfl
     .exact hm
 .unfold LN.land
  cases P with
  | nil=>rw[ng (by simp),nh (show s=p from k)];rfl
  | cons y r=>rw[nh (by rw[k.1];show Bs)];rfl
 .unfold LN.land
  split
  .rfl
  .split
   .rfl
   .exact hx
end LN
namespace CY
open LN
def it(J:Nat->Option Nat):Nat->Nat->Option Nat
 | 0,p=>some p
 | k+1,p=>(J p).bind (it J k)
section
variable{J:Nat->Option Nat}
def V6:∀(a b p:Nat),it J (a+b) p=(it J a p).bind (it J b)
 | 0,b,p=>by rw[Nat.zero_add];rfl
 | a+1,b,p=>by
  rw[Nat.add_right_comm]
  show(J p).bind _=((J p).bind _).bind _
  cases J p with
  | none=>rfl
  | some q=>show V6 a b q
def Re:∀{k p q:Nat},it J k p=some q->Orb J p q
 | 0,p,q,h=>by cases h;show .refl _
 | k+1,p,q,h=>by
  let⟨r,b,a⟩:=Ih.mp (show(J p).bind _=some q from h)
  show .step b (Re a)
def Y53{p q:Nat}(h:Orb J p q):∃k,it J k p=some q:=by
 induction h with
 | refl _=>show⟨0,rfl⟩
 | step e _ a=>let⟨k,b⟩:=a;show⟨k+1,by show(J _).bind _=_;rw[e];show b⟩
def Cyc(J:Nat->Option Nat)(a:Nat):Prop:=∃d,0<d/\it J d a=some a
def Y75{n p q:Nat}(w:∀p q,J p=some q->p<n)(h:it J (n+1) p=some q):Cyc J q:=by
 have f:∀k,k<=n->∃x,it J k p=some x/\x<n:=by
  intro k m
  rw[show n+1=k+(n - k+1) by lia,V6] at h
  let⟨x,B,A⟩:=Ih.mp h
  let⟨y,z,_⟩:=Ih.mp (show(J x).bind _=some q from A)
  show⟨x,B,w _ _ z⟩
 have i:∃a b,a<b/\b<=n/\it J a p=it J b p:=by
  refine Classical.byContradiction fun l=>?_
  have t:((Ik (n+1)).map fun k=>(it J k p).getD 0).Nodup:=by
   refine List.pairwise_map.mpr (List.Pairwise.imp_of_mem ?_ List.pairwise_lt_range)
   intro a b C o c e
   have v:=Il.mp o
   let⟨x,d,_⟩:=f a 'o'
   let⟨y,g,_⟩:=f b 'o'
   rw[d,g] at e
   show l ⟨a,b,c,'o',by rw[d,g];show congrArg some e⟩
  have:=GT.Zz5 t (n:=n) fun x j=>by
   let⟨k,m,rfl⟩:=Hy.mp j
   let⟨y,e,u⟩:=f k (by have:=Il.mp m;lia)
   rw[e];show u
  rw[Af,List.length_range] at this
  lia
 let⟨a,b,c,o,e⟩:=i
 let⟨x,d,_⟩:=f a 'o'
 have g:it J (b - a) x=some x:=by
  have:=e
  rw[show b=a+(b - a) by lia,V6,d] at this
  show this.symm
 have s:it J (n+1 - a) x=some q:=by
  have:=h
  rw[show n+1=a+(n+1 - a) by lia,V6,d] at this
  show this
 refine⟨b - a,'o',?_⟩
 have r:=V6 (J:=J) (n+1 - a) (b - a) x
 rw[s,Nat.add_comm,V6,g] at r
 show r.symm.trans s
def fork{p q:Nat}(h:Orb J p q):∀{r},Orb J p r->Orb J q r\/Orb J r q:=by
 induction h with
 | refl _=>intro r g;show .inl g
 | step e h b=>
  intro r g
  cases g with
  | refl _=>show .inr (.step e h)
  | step a g=>rw[e] at a;cases a;show b g
def Rz{q r:Nat}(h:J q=none)(o:Orb J q r):r=q:=by
 cases o with
 | refl _=>rfl
 | step e _=>rw[h] at e;cases e
def Cyc.goes{a:Nat}(h:Cyc J a):J a≠none:=by
 let⟨d,c,b⟩:=h
 intro z
 cases d with
 | zero=>lia
 | succ d=>rw[show it J (d+1) a=(J a).bind (it J d) from rfl,z] at b;cases b
def Y71{a d:Nat}(h:it J d a=some a):∀k,it J (k * d) a=some a
 | 0=>by rw[Nat.zero_mul];rfl
 | k+1=>by rw[Nat.succ_mul,V6,Y71 h k];show h
def Cyc.back{a x:Nat}(h:Cyc J a)(o:Orb J a x):Orb J x a:=by
 let⟨d,g,f⟩:=h
 let⟨k,c⟩:=Y53 o
 have b:=Y71 f (k+1)
 have e:k<=(k+1) * d:=nj (mh k) (Nat.le_mul_of_pos_right _ g)
 rw[show(k+1) * d=k+((k+1) * d - k) by lia,V6,c] at b
 show Re b
def Zf3{p q l:Nat}(d:Orb J p q)(a:J q=none)(c:Orb J p l)(b:Cyc J l):False:=by
 rcases fork d c with o | o
 .exact b.goes (by rw[Rz a o];show a)
 .exact b.goes (by rw[Rz a (b.back o)];show a)
end
section
variable{N J:Nat->Option Nat}{φ:Nat->Nat}
def Zh4(g:∀p q,N p=some q->(φ q=φ p/\p<q)\/J (φ p)=some (φ q)):∀{d p q:Nat},it N d p=some q->(φ q=φ p/\p<=q/\(0<d->p<q))\/∃e,0<e/\it J e (φ p)=some (φ q)
 | 0,p,q,h=>by cases h;show .inl ⟨rfl,nc _,fun z=>by lia⟩
 | d+1,p,q,h=>by
  let⟨r,k,j⟩:=Ih.mp (show(N p).bind _=some q from h)
  rcases g p r k with⟨a,b⟩ | a<;>rcases Zh4 g j with⟨c,e,f⟩ | ⟨e,l,i⟩
  .exact .inl ⟨c.trans a,'o',fun _=>by lia⟩
  .exact .inr ⟨e,l,by rw[<-a];show i⟩
  .exact .inr ⟨1,'o',by show(J _).bind _=_;rw[a,c];rfl⟩
  .exact .inr ⟨e+1,'o',by show(J _).bind _=_;rw[a];show i⟩
def Ja(b:∀p q,N p=some q->(φ q=φ p/\p<q)\/J (φ p)=some (φ q)){p q:Nat}(o:Orb N p q):Orb J (φ p) (φ q):=by
 let⟨k,c⟩:=Y53 o
 rcases Zh4 b c with⟨a,_⟩ | ⟨e,_,d⟩
 .rw[a];show .refl _
 .exact Re d
def Zp8(b:∀p q,N p=some q->(φ q=φ p/\p<q)\/J (φ p)=some (φ q)){l:Nat}(h:Cyc N l):Cyc J (φ l):=by
 let⟨d,g,f⟩:=h
 rcases Zh4 b f with⟨_,_,a⟩ | ⟨e,i,c⟩
 .exact absurd (a g) (nu _)
 .exact⟨e,i,c⟩
end
end CY
namespace UB
open PySem PySem.Builtin
def Ze3(a b:Nat):(a&&&b) % 2=(a % 2) * (b % 2):=by
 have h:=Nat.testBit_and a b 0
 rw[Nat.testBit_zero,Nat.testBit_zero,Nat.testBit_zero,Bool.eq_iff_iff,Bz9,decide_eq_true_iff,decide_eq_true_iff,decide_eq_true_iff] at h
 rcases Nat.mod_two_eq_zero_or_one a with ha | ha<;>rcases Nat.mod_two_eq_zero_or_one b with hb | hb<;>rw[ha,hb] at h ⊢ <;>lia
def Zw2(a b:Nat):(a ||| b) % 2+(a % 2) * (b % 2)=a % 2+b % 2:=by
 have h:=Nat.testBit_or a b 0
 rw[Nat.testBit_zero,Nat.testBit_zero,Nat.testBit_zero,Bool.eq_iff_iff,Bool.or_eq_true,decide_eq_true_iff,decide_eq_true_iff,decide_eq_true_iff] at h
 rcases Nat.mod_two_eq_zero_or_one a with ha | ha<;>rcases Nat.mod_two_eq_zero_or_one b with hb | hb<;>rw[ha,hb] at h ⊢ <;>lia
def Zh8(a b:Nat):(a ^^^ b) % 2+2 * ((a % 2) * (b % 2))=a % 2+b % 2:=by
 have h:=Nat.testBit_xor a b 0
 rw[Nat.testBit_zero,Nat.testBit_zero,Nat.testBit_zero] at h
 rcases Nat.mod_two_eq_zero_or_one a with ha | ha<;>rcases Nat.mod_two_eq_zero_or_one b with hb | hb<;>rw[ha,hb] at h ⊢ <;>(first | (have c:=of_decide_eq_true h;lia) | (have c:=of_decide_eq_false h;lia))
def C6(n:Nat):∀a b:Nat,a<2 ^ n->b<2 ^ n->(a ||| b)+(a&&&b)=a+b/\(a ^^^ b)+2 * (a&&&b)=a+b:=by
 induction n with
 | zero=>
  intro a b d c
  have:a=0:=by simpa using d
  have:b=0:=by simpa using c
  subst a b
  decide
 | succ n f=>
  intro a b d c
  have j:a / 2<2 ^ n:=by rw[Nat.pow_succ] at d;lia
  have i:b / 2<2 ^ n:=by rw[Nat.pow_succ] at c;lia
  let⟨h,g⟩:=f (a / 2) (b / 2) j i
  have e:(a&&&b) / 2=a / 2&&&b / 2:=Nat.and_div_two
  have l:(a ||| b) / 2=a / 2 ||| b / 2:=Nat.or_div_two
  have k:(a ^^^ b) / 2=a / 2 ^^^ b / 2:=Nat.xor_div_two
  have q:=Ze3 a b
  have o:=Zw2 a b
  have m:=Zh8 a b
  rw[<-e,<-l] at h
  rw[<-e,<-k] at g
  generalize (a % 2) * (b % 2)=p at *
  lia
def Ym8(a b:Nat):(a ||| b)+(a&&&b)=a+b:=by
 refine(C6 (a+b) a b ?_ ?_).1
 .exact ma (Nat.le_add_right a b) Nat.lt_two_pow_self
 .exact ma (Nat.le_add_left b a) Nat.lt_two_pow_self
def Qg(a b:Nat):(a ^^^ b)+2 * (a&&&b)=a+b:=by
 refine(C6 (a+b) a b ?_ ?_).2
 .exact ma (Nat.le_add_right a b) Nat.lt_two_pow_self
 .exact ma (Nat.le_add_left b a) Nat.lt_two_pow_self
def mag(x:Int):Nat:=if x<0 then(-1 - x).toNat else x.toNat
def Jj{x:Int}(h:0<=x):mag x=x.toNat:=ng 'o'
def Cv{x:Int}(h:x<0):mag x=(bitNot x).toNat:=by
 unfold mag;rw[nh h];unfold bitNot;congr 1;lia
def Zn9{x y:Int}(b:0<=x)(a:0<=y):bitAnd x y=((mag x&&&mag y:Nat):Int):=by
 unfold bitAnd;rw[decide_eq_true b,decide_eq_true a,Jj b,Jj a]
def Z72{x y:Int}(hx:0<=x)(hy:y<0):bitAnd x y=((mag x ^^^ (mag x&&&mag y):Nat):Int):=by
 unfold bitAnd;rw[decide_eq_true hx,mf (by lia:¬0<=y),<-Cv hy]
 change x - ((x.toNat&&&mag y:Nat):Int)=_
 rw[<-Jj hx]
 have h:=Qg (mag x) (mag x&&&mag y)
 have e:mag x&&&(mag x&&&mag y)=mag x&&&mag y:=by rw[<-Nat.and_assoc,Nat.and_self]
 rw[e] at h
 have:((mag x:Nat):Int)=x:=by rw[Jj hx];lia
 lia
def Ze7{x y:Int}(b:x<0)(a:0<=y):bitAnd x y=((mag y ^^^ (mag y&&&mag x):Nat):Int):=by
 rw[<-Z72 a b]
 unfold bitAnd;rw[decide_eq_true a,mf (by lia:¬0<=x)]
def Zo4{x y:Int}(b:x<0)(a:y<0):bitAnd x y= -1 - ((mag x ||| mag y:Nat):Int):=by
 unfold bitAnd;rw[mf (by lia:¬0<=x),mf (by lia:¬0<=y),<-Cv b,<-Cv a]
 change bitNot _=_
 unfold bitNot;lia
def Wf(x:Int):mag (bitNot x)=mag x:=by
 unfold mag bitNot
 by_cases h:x<0
 .rw[nh h,ng 'o'];congr 1;lia
 .rw[ng h,nh 'o'];congr 1;lia
def Yv0{x y:Int}(h:(0<=x/\0<=y)\/(x<0/\y<0)):bitXor x y=((mag x ^^^ mag y:Nat):Int):=by
 unfold bitXor bitOr
 have d:=Ym8 (mag x) (mag y)
 have c:=Qg (mag x) (mag y)
 rcases h with⟨b,a⟩ | ⟨b,a⟩
 .rw[Zo4 (x:=bitNot x) (y:=bitNot y) (by unfold bitNot;lia) (by unfold bitNot;lia),Zn9 b a,Wf,Wf]
  unfold bitNot;lia
 .rw[Zn9 (x:=bitNot x) (y:=bitNot y) (by unfold bitNot;lia) (by unfold bitNot;lia),Zo4 b a,Wf,Wf]
  unfold bitNot;lia
def Yu7{x y:Int}(h:(0<=x/\y<0)\/(x<0/\0<=y)):bitXor x y= -1 - ((mag x ^^^ mag y:Nat):Int):=by
 unfold bitXor bitOr
 have i:=Qg (mag x) (mag y)
 have e:mag y&&&mag x=mag x&&&mag y:=Nat.and_comm _ _
 have d:=Qg (mag x) (mag x&&&mag y)
 have g:mag x&&&(mag x&&&mag y)=mag x&&&mag y:=by rw[<-Nat.and_assoc,Nat.and_self]
 have c:=Qg (mag y) (mag x&&&mag y)
 have f:mag y&&&(mag x&&&mag y)=mag x&&&mag y:=by rw[Nat.and_comm (mag x),<-Nat.and_assoc,Nat.and_self]
 rw[g] at d
 rw[f] at c
 rcases h with⟨b,a⟩ | ⟨b,a⟩
 .rw[Ze7 (x:=bitNot x) (y:=bitNot y) (by unfold bitNot;lia) (by unfold bitNot;lia),Z72 b a,Wf,Wf,e]
  unfold bitNot;lia
 .rw[Z72 (x:=bitNot x) (y:=bitNot y) (by unfold bitNot;lia) (by unfold bitNot;lia),Ze7 b a,Wf,Wf,e]
  unfold bitNot;lia
def Z76{x:Int}{n:Nat}(b:-(2 ^ n:Nat)<=x)(a:x< (2 ^ n:Nat)):mag x<2 ^ n:=by
 unfold mag;split<;>lia
def range_and{x y:Int}{n:Nat}(f:-(2 ^ n:Nat)<=x)(e:x< (2 ^ n:Nat))(d:-(2 ^ n:Nat)<=y)(c:y< (2 ^ n:Nat)):
  -(2 ^ n:Nat)<=bitAnd x y/\bitAnd x y< (2 ^ n:Nat):=by
 have a:=Z76 f e
 have b:=Z76 d c
 rcases Int.lt_or_le x 0 with hx | hx<;>rcases Int.lt_or_le y 0 with hy | hy
 .rw[Zo4 hx hy];have:=Nat.or_lt_two_pow a b;lia
 .rw[Ze7 hx hy];have:=Nat.xor_lt_two_pow b (Nat.and_lt_two_pow (mag y) a);lia
 .rw[Z72 hx hy];have:=Nat.xor_lt_two_pow a (Nat.and_lt_two_pow (mag x) b);lia
 .rw[Zn9 hx hy];have:=Nat.and_lt_two_pow (mag x) b;lia
def range_xor{x y:Int}{n:Nat}(e:-(2 ^ n:Nat)<=x)(d:x< (2 ^ n:Nat))(c:-(2 ^ n:Nat)<=y)(b:y< (2 ^ n:Nat)):
  -(2 ^ n:Nat)<=bitXor x y/\bitXor x y< (2 ^ n:Nat):=by
 have a:=Nat.xor_lt_two_pow (Z76 e d) (Z76 c b)
 rcases Int.lt_or_le x 0 with hx | hx<;>rcases Int.lt_or_le y 0 with hy | hy
 .rw[Yv0 (.inr ⟨hx,hy⟩)];lia
 .rw[Yu7 (.inr ⟨hx,hy⟩)];lia
 .rw[Yu7 (.inl ⟨hx,hy⟩)];lia
 .rw[Yv0 (.inl ⟨hx,hy⟩)];lia
end UB
namespace K52
open PySem PySem.Spec PyProof.Rows L2 L3 U
abbrev Rd(K:Ab)(Γ:List DSp)(G:LD)(sp:DSp)(b:Ss)(N:LS):Prop:=∀ds M Q Z,sp ds M Q Z->tss ⟨K,Γ,G⟩ noX b {nx:=fun _ M=>Q .non M,rt:=Q} (start0 N ds) M
def FN:LS:="line_of"::"told_within"::"lines_of"::"with_goal"::"begin_rows"::"begin_no"::"finish_rows"::"rows_of"::"quotient"::"rest"::"made"::"holds"::"worth"::"deed_of_sum"::"deed_of_test"::"behind"::"deed_of"::"run_from"::"landings"::"linked"::"run"::"run_form"::"_law_raw"::"_law_mix"::"_law_kept"::"_law_sign"::"_law_word"::"_law_names"::"_law_operand"::"_law_begins"::"_law_deed"::"_law_goes"::"_law_first"::"_law_close"::"_law_step"::"_law_lines"::"_law_nested"::"_law_marks"::"_law_next"::"_law_comes"::"_law_no"::"_law_alike"::"_law_memory"::"_law_same_memory"::"_law_worth"::"_law_made"::"_law_done"::"_law_run"::"_law_fits"::"law"::"run"::"run_form"::[]
def GN:LS:=["JumpError","ByNought","ELSE","DONE","OPENERS"]
def BN:LS:=["list","reversed","len","enumerate","isinstance","str","dict","range","int","zip","tuple","bool","max","min"]
abbrev Zi0:Stmt:=top 5
def Eh:LS:=["statement"]
section
local macro_rules | `(#[$x,*])=>do
 let mut r<-`(.nil)
 for y in x.getElems.reverse do r<-`(.cons $(<-tmI y) $r)
 return r
local macro_rules | `($a :: $b)=>do `(.cons $(<-tmI a) $b)
local macro_rules | `($a[$i])=>do `(.ix $(<-tmI a) $(<-tmI i))
local macro_rules | `($a + $b)=>do `(.bin .add $(<-tmI a) $(<-tmI b))
local macro_rules | `($a - $b)=>do `(.bin .sub $(<-tmI a) $(<-tmI b))
local macro_rules | `($a * $b)=>do `(.bin .mul $(<-tmI a) $(<-tmI b))
local macro_rules | `($a / $b)=>do `(.bin .fdiv $(<-tmI a) $(<-tmI b))
local macro_rules | `($a % $b)=>do `(.bin .mod $(<-tmI a) $(<-tmI b))
local macro_rules | `($a == $b)=>do `(.cmp .eq $(<-tmI a) $(<-tmI b))
local macro_rules | `($a != $b)=>do `(.cmp .ne $(<-tmI a) $(<-tmI b))
local macro_rules | `($a < $b)=>do `(.cmp .lt $(<-tmI a) $(<-tmI b))
local macro_rules | `($a > $b)=>do `(.cmp .gt $(<-tmI a) $(<-tmI b))
local macro_rules | `($a ∈ $b)=>do `(.cmp .isin $(<-tmI a) $(<-tmI b))
noncomputable def Vg:Ss:=#[.ret (.var 0)]
def X4:Ss:=(.ite (v0[0]∈(.tup #["round","part"])) #[.ret (.slW (.var 0) .no (.yes (.int 2)))] .nil)::Vg
def Ey:Ss:=(.ite (v0[0]=="choice") #[.ret (.sl (.var 0) .no (.yes (.int 4)))] .nil)::X4
abbrev Ga:Stmt:=top 6
def Y7:LS:=["statement","yes","no"]
def W8:Ss:=#[.ret (((v1+(.lst #[.glb 2]))+v2)+(.lst #[.glb 3]))]
def Wa:Ss:=(.set [1,2] (.sl (.var 0) (.yes (.int 4)) .no))::(.ite (v2==(.lst .nil)) #[.ret (v1+(.lst #[.glb 3]))] .nil)::W8
def Yn:Ss:=(.ite (v0[0] !="choice") #[.ret (.lst .nil)] .nil)::Wa
def Y8:Ss:=(.ite (v0[0]∈(.tup #["round","part"])) #[.ret (v0[2]+(.lst #[.glb 3]))] .nil)::Yn
abbrev Za6:Stmt:=top 4
def Nh:LS:=["form","told","left","statement"]
def R9:Ss:=#[.ret (.var 1)]
def Rg:Ss:=#[.set [3] (.mt .pop0 (.var 2) .nil),.expr (.mt .append (.var 1) #[.call 0 #[v3]]),.expr (.mt .extend (.var 2) #[.lrev (.call 1 #[v3])])]
def Pv:Ss:=(.set [1] (.lst .nil))::(.set [2] (.lrev (.var 0)))::(.while_ (v2 !=(.lst .nil)) Rg)::R9
abbrev Cd:Stmt:=top 12
def Qw:LS:=["row","places"]
def Xr:Ss:=#[.ret (.var 0)]
def Qo:Ss:=(.ite (v0[0]∈(.tup #["test","jump"])) #[.ret ((.sl (.var 0) .no (.yes (.neg (.int 1))))+(.tup #[v1[v0[.neg (.int 1)]]]))] .nil)::Xr
abbrev Gw:Stmt:=top 9
def R6:LS:=["line","told","places","number"]
def Vb:Ss:=#[.set [3] (.bf .len #[v1]),.expr (.mt .append (.var 1) #[((.tup #["test"])+(.sl (.var 0) (.yes (.int 1)) .no))+(.tup #[.tup #["yes",v3]])]),.expr (.mt .append (.var 1) #[.tup #["jump",.tup #["no",v3]]]),.put (.var 2) (.tup #["yes",v3]) (.bf .len #[v1]),.ret (.tup #["choice",v3])]
def Sy:Ss:=(.ite (v0[0] !="choice") #[.put (.var 2) (.tup #["again",v0[1]]) (.bf .len #[v1]),.ret (.var 0)] .nil)::Vb
abbrev Za3:Stmt:=top 10
def Ps:LS:=["choice","told","places"]
def Px:Ss:=#[.expr (.mt .append (.var 1) #[.tup #["jump",.tup #["behind",v0[1]]]]),.put (.var 2) (.tup #["no",v0[1]]) (.bf .len #[v1])]
abbrev Nw:Stmt:=top 11
def Tg:LS:=["done","told","places","kind","number"]
def Yo:Ss:=#[.ite (v3∈(.tup #["round","part"])) #[.put (.var 2) (.tup #["leave",v4]) (.bf .len #[v1])] .nil]
def Y3:Ss:=(.ite (v3=="round") #[.expr (.mt .append (.var 1) #[.tup #["jump",.tup #["again",v4]]])] .nil)::Yo
def Vu:Ss:=(.set [3,4] (.var 0))::(.ite (v3=="choice") #[.expr (.mt .setd (.var 2) #[.tup #["no",v4],.bf .len #[v1]]),.put (.var 2) (.tup #["behind",v4]) (.bf .len #[v1])] .nil)::Y3
abbrev Zs3:Stmt:=top 8
def E4:LS:=["form","told","places","opened","line"]
def Ph:Ss:=#[.expr (.mt .append (.var 1) #[.tup #["end"]]),.ret (.comp ["number","row","places"] [none,none,some 2] [0,1] (.enm (.var 1)) .no ((.tup #[v0])+(.call 3 #[v1,v2])))]
def Vf:Ss:=#[.ite (v4[0]∈(.glb 4)) #[.expr (.mt .append (.var 3) #[.call 4 #[v4,v1,v2]])] #[.ite (v4==(.glb 2)) #[.expr (.call 5 #[v3[.neg (.int 1)],v1,v2])] #[.ite (v4==(.glb 3)) #[.expr (.call 6 #[.mt .pop0 (.var 3) .nil,v1,v2])] #[.ite (v4[0]∈(.tup #["leave","again"])) #[.expr (.mt .append (.var 1) #[.tup #["jump",v4]])] #[.expr (.mt .append (.var 1) #[v4])]]]]]
def Gn:Ss:=(.set [1] (.lst .nil))::(.set [2] .dictT)::(.set [3] (.lst .nil))::(.for_ [4] (.seq (.call 2 #[v0])) Vf)::Ph
abbrev Z86:Stmt:=top 18
def Om:LS:=["one","other"]
def So:Ss:=#[.ret (v0/v1)]
def O7:Ss:=(.ite (v1==0) #[.raise 1 .nil] .nil)::So
abbrev Yo5:Stmt:=top 19
def Y68:LS:=["one","other"]
def Z19:Ss:=#[.ret (v0%v1)]
def Y64:Ss:=(.ite (v1==0) #[.raise 1 .nil] .nil)::Z19
abbrev Yn3:Stmt:=top 17
def Y74:LS:=["sign","one","other"]
def Z36:Ss:=#[.ret (.bin .bxor (.var 1) (.var 2))]
def Z00:Ss:=(.ite (v0=="&") #[.ret (.bin .band (.var 1) (.var 2))] .nil)::Z36
def Z14:Ss:=(.ite (v0=="rest") #[.ret (.call 9 #[v1,v2])] .nil)::Z00
def Bg:Ss:=(.ite (v0=="/") #[.ret (.call 8 #[v1,v2])] .nil)::Z14
def Z35:Ss:=(.ite (v0=="-") #[.ret (v1-v2)] .nil)::Bg
def Y40:Ss:=(.ite (v0=="+") #[.ret (v1+v2)] .nil)::Z35
abbrev Yj8:Stmt:=top 20
def Zq0:LS:=["sign","one","other"]
def Ed:Ss:=#[.ret (v1==v2)]
def Zl0:Ss:=(.ite (v0=="<") #[.ret (v1<v2)] .nil)::Ed
abbrev Yh8:Stmt:=top 21
def Zl1:LS:=["operand","memory"]
def Gh:Ss:=#[.ret (.var 0)]
def Zh9:Ss:=(.ite (.bf .isinst #[v0,.ty .str]) #[.ret (.mt .get2 (.var 1) #[v0,0])] .nil)::Gh
abbrev J2:Stmt:=top 22
def Tj:LS:=["name","one","sign","other","memory","a","b"]
def Vz:Ss:=#[.set [5] (.call 12 #[v1,v4]),.set [6] (.call 12 #[v3,v4]),.ret (.tup #["sum",v0,v5,v2,v6,.call 10 #[v2,v5,v6]])]
abbrev Pj:Stmt:=top 23
def V9:LS:=["one","sign","other","memory","a","b"]
def V7:Ss:=#[.set [4] (.call 12 #[v0,v3]),.set [5] (.call 12 #[v2,v3]),.ret (.tup #["test",v4,v1,v5,.call 11 #[v1,v4,v5]])]
abbrev Y30:Stmt:=top 27
def Z09:LS:=["node","deed","memory"]
def Z98:Ss:=#[.ret (.ife v1[4] v0[4] v0[5])]
def Z07:Ss:=(.ite (v0[0]=="sum") #[.put (.var 2) v0[1] v1[5],.ret v0[5]] .nil)::Z98
abbrev Zf1:Stmt:=top 26
def Eb:LS:=["node","memory"]
def B6:Ss:=#[.ret (.call 14 #[v0[1],v0[2],v0[3],v1])]
def Fc:Ss:=(.ite (v0[0]=="sum") #[.ret (.call 13 #[v0[1],v0[2],v0[3],v0[4],v1])] .nil)::B6
abbrev Z82:Stmt:=top 25
def Pw:LS:=["nodes","start","memory","most","held","deeds","place","deed","word"]
def Wn:Ss:=#[.set [8] (.ife (v0[v6][0]=="end") (.str "end") (.str "on")),.ret (.tup #[v5,v8,v4])]
def R7:Ss:=#[.expr (.mt .append (.var 5) #[v7]),.set [6] (.call 15 #[v0[v6],v7,v4])]
def R0:Ss:=(.tryN (.set 7) 16 #[v0[v6],v4] 1 #[.ret (.tup #[v5,"fault",v4])])::R7
def N7:Ss:=(.set [4] (.bf .dict1 #[v2]))::(.set [5] (.lst .nil))::(.set [6] (.var 1))::(.while_ (.bop true #[v0[v6][0]∈(.tup #["sum","test"]),(.bf .len #[v5])<v3]) R0)::Wn
abbrev Za1:Stmt:=top 30
def Ov:LS:=["rows","places","landed","start","passed","place","goal","jump"]
def Rb:Ss:=#[.ret (.var 2)]
def Sq:Ss:=#[.put (.var 2) (.var 7) (.var 6)]
def W4:Ss:=#[.set [6] (.mt .get2 (.var 2) #[v5,v5]),.put (.var 2) (.var 5) (.var 6),.forK [7] (.var 4) Sq]
def R8:Ss:=#[.put (.var 4) (.var 5) (.bl true),.set [5] v1[v0[v5][2]]]
def Su:Ss:=(.set [4] .dict0)::(.set [5] (.var 3))::(.while_ (.bop true #[.cmp .notin (.var 5) (.var 2),.cmp .notin (.var 5) (.var 4),v0[v5][1]=="jump"]) R8)::W4
def Pz:Ss:=(.set [2] .dict0)::(.for_ [3] (.rng1 (.bf .len #[v0])) Su)::Rb
abbrev Zz3:Stmt:=top 29
def Bo:LS:=["rows","places","landed","nodes","place","row"]
def Oo:Ss:=#[.ret (.tup #[v3,v2[0]])]
def Na:Ss:=#[.ite (v5[1]=="sum") #[.expr (.mt .append (.var 3) #[(.sl (.var 5) (.yes (.int 1)) .no)+(.tup #[v2[v4+1]])])] #[.ite (v5[1]=="test") #[.expr (.mt .append (.var 3) #[(.sl (.var 5) (.yes (.int 1)) (.yes (.int 5)))+(.tup #[v2[v1[v5[5]]],v2[v4+1]])])] #[.ite (v5[1]=="end") #[.expr (.mt .append (.var 3) #[.tup #["end"]])] #[.expr (.mt .append (.var 3) #[.tup #["spin"]])]]]]
def Z22:Ss:=(.set [1] (.bf .dict1 #[.comp ["place","row"] [none,none] [0,1] (.enm (.var 0)) .no (.tup #[v1[0],v0])]))::(.set [2] (.call 18 #[v0,v1]))::(.set [3] (.lst .nil))::(.for_ [4,5] (.enm (.var 0)) Na)::Oo
abbrev Yw4:Stmt:=top 32
def Yr7:LS:=["rows","memory","most","nodes","start"]
def Yv1:Ss:=#[.set [3,4] (.call 19 #[v0]),.ret (.call 17 #[v3,v4,v1,v2])]
abbrev Zb1:Stmt:=top 34
def Pu:LS:=["form","memory","most"]
def Oj:Ss:=#[.ret (.call 20 #[.call 7 #[v0],v1,v2])]
abbrev Yp6:Stmt:=top 36
def Y52:LS:=["_law_script","_law_k"]
def Z21:Ss:=#[.ret v0[v1%(.bf .len #[v0])]]
def Y72:Ss:=(.ite ((.bf .len #[v0])==0) #[.ret (.var 1)] .nil)::Z21
abbrev Yo9:Stmt:=top 37
def Y49:LS:=["_law_script","_law_k","_law_turn"]
def Z68:Ss:=#[.set [2] (v1/(.bf .len #[v0])),.ret (((((.call 22 #[v0,v1])%2147483629)+2)*(48271+((7*v2)*v2)))%2147483647)]
def Y65:Ss:=(.ite ((.bf .len #[v0])==0) #[.ret ((((v1*v1)+3)*48271)%2147483647)] .nil)::Z68
abbrev Yc6:Stmt:=top 38
def Zp1:LS:=[]
def Zm3:Ss:=#[.ret (.lst #["if","jump","end","rest","round","part","leave","again","else","done"])]
abbrev Yi8:Stmt:=top 39
def Ze5:LS:=["_law_number","_law_first_here"]
def Ec:Ss:=#[.ret (.str "abcdefghijklmnopqrstuvwxyz0123456789")[v0%36]]
def Zl3:Ss:=(.ite (.var 1) #[.ret (.str "abcdefghijklmnopqrstuvwxyz")[v0%26]] .nil)::Ec
abbrev Y92:Stmt:=top 40
def Zr0:LS:=["_law_number","_law_size","_law_word_here","_law_k"]
def E6:Ss:=#[.ret (.var 2)]
def C1:Ss:=#[.set [0] (((v0+2)*69621)%2147483629),.set [2] (v2+(.call 25 #[v0/64,v3==0]))]
def Zr5:Ss:=(.set [2] (.str ""))::(.for_ [3] (.rng1 (.var 1)) C1)::E6
abbrev Y32:Stmt:=top 41
def Z63:LS:=["_law_script","_law_first_here","_law_stem","_law_at","_law_names_here","_law_k","_law_number","_law_word_here"]
def O9:Ss:=#[.ret (.var 4)]
def S4:Ss:=#[.expr (.mt .append (.var 4) #[v7])]
def Sj:Ss:=(.ite (v7∈(.call 24 .nil)) #[.set [7] ("q"+(.sl (.var 7) (.yes (.int 1)) .no))] .nil)::S4
def S5:Ss:=(.ite (.bop true #[v5==4,(v6%4)==1]) #[.set [7] (((.call 24 .nil)[(v6/4)%10])+(.call 25 #[v6/64,.bl false]))] .nil)::Sj
def Py:Ss:=(.set [6] (.call 23 #[v0,902+v5]))::(.set [7] (((.sl (.var 2) .no (.yes (.var 3)))+(.call 25 #[(v1/512)+(7*v5),v3==0]))+(.sl (.var 2) (.yes (v3+1)) .no)))::(.ite ((v1%2)==0) #[.set [7] (.call 26 #[v6,1+((v6/8)%8)])] .nil)::S5
def Z51:Ss:=(.set [1] (.call 23 #[v0,901]))::(.set [2] (.call 26 #[v1,1+((v1/8)%8)]))::(.set [3] ((v1/64)%(.bf .len #[v2])))::(.set [4] (.lst .nil))::(.for_ [5] (.rng1 (.int 5)) Py)::O9
abbrev Za5:Stmt:=top 42
def O5:LS:=["_law_script","_law_k","_law_names_here","_law_number","_law_big"]
def Sz:Ss:=#[.ret (.var 4)]
def Wm:Ss:=(.ite (((v3/12)%2)==0) #[.ret (0-v4)] .nil)::Sz
def Sx:Ss:=(.set [4] ((((.call 22 #[v0,v1])%(.bin .pow (.int 10) (.int 18)))*(1+((v3/24)%1000)))%(.bin .pow (.int 10) (.int 18))))::(.ite (((v3/3)%4)==0) #[.set [4] (((.bin .pow (.int 10) (.int 18))-1)-((v3/24)%3))] .nil)::Wm
def Rh:Ss:=(.ite ((v3%3)==1) #[.ret (((v3/3)%41)-20)] .nil)::Sx
def Oa:Ss:=(.ite ((v3%3)==0) #[.ret v2[(v3/3)%5]] .nil)::Rh
abbrev Zp4:Stmt:=top 43
def Ca:LS:=["_law_line"]
def Fb:Ss:=#[.ret (.bop false #[v0[0]=="if",v0[0]=="round",v0[0]=="part"])]
abbrev Y86:Stmt:=top 44
def Zr7:LS:=["_law_script","_law_k","_law_names_here","_law_number","_law_one","_law_other","_law_sign_here","_law_goes_here"]
def Fo:Ss:=#[.set [6] (.lst #["+","-","/","rest","&","^"])[(v3/24)%6],.set [7] v2[(v3/144)%5],.ret (.tup #["sum",v7,v4,v6,v5])]
def Zf8:Ss:=(.set [4] (.call 28 #[v0,v1,v2,((v3*16807)%2147483563)/8]))::(.set [5] (.call 28 #[v0,v1+1,v2,((v3*39373)%2147483543)/8]))::(.ite ((v3%24)<4) #[.set [6] (.lst #["<","="])[(v3/24)%2],.ret (.tup #["if",v4,v6,v5])] .nil)::Fo
abbrev Yg7:Stmt:=top 45
def Zp3:LS:=["_law_stack","_law_number","_law_homes","_law_rounds"]
def Gx:Ss:=#[.ret (.tup #["leave",v2[(v1/24)%(.bf .len #[v2])]])]
def Qu:Ss:=(.ite (v2==(.lst .nil)) #[.ret .non] .nil)::Gx
def Zj2:Ss:=(.set [2] (.comp ["_law_one"] [none] [0] (.seq (.var 0)) (.yes (.cmp .ge v0[1] (.int 0))) v0[1]))::(.set [3] (.comp ["_law_one"] [none] [0] (.seq (.var 0)) (.yes (v0[0]=="round")) v0[1]))::(.ite (.bop true #[(v1%24)==16,v3 !=(.lst .nil)]) #[.ret (.tup #["again",v3[(v1/24)%(.bf .len #[v3])]])] .nil)::Qu
abbrev Y20:Stmt:=top 46
def Z52:LS:=["_law_script","_law_number"]
def Z13:Ss:=#[.set [1] (.call 23 #[v0,911]),.ret (.lst #[(v1/8)%10000,0,9999])[v1%3]]
abbrev Y26:Stmt:=top 47
def Z55:LS:=["_law_stack","_law_number","_law_top"]
def Sd:Ss:=#[.ret (.tup #["done"])]
def Z24:Ss:=(.set [2] (.mt .pop0 (.var 0) .nil))::(.ite (.bop true #[v2[0]=="if",((v1/24)%3)>0]) #[.expr (.mt .append (.var 0) #[.tup #["else",.neg (.int 1)]]),.ret (.tup #["else"])] .nil)::Sd
abbrev Yb2:Stmt:=top 48
def Zj0:LS:=["_law_script","_law_k","_law_names_here","_law_stack","_law_number","_law_way","_law_line"]
def W9:Ss:=#[.ret (.var 6)]
def Pg:Ss:=(.ite (.call 29 #[v6]) #[.expr (.mt .append (.var 3) #[.tup #[v6[0],(.lst #[v6[1],.neg (.int 1)])[.bf .int1 #[v6[0]=="if"]]]])] .nil)::W9
def Vq:Ss:=(.ite (.cmp .is (.var 6) .non) #[.set [6] (.call 30 #[v0,v1,v2,((v4/24)*24)+18])] .nil)::Pg
def Wl:Ss:=(.ite (.bop true #[v5==17,v3 !=(.lst .nil),(v3[.neg (.int 1)][0])∈(.lst #["if","else"])]) #[.set [6] (.tup #["end"])] .nil)::Vq
def Wc:Ss:=(.ite (.bop true #[v5>13,v5<17]) #[.set [6] (.call 31 #[v3,v4])] .nil)::Wl
def Wg:Ss:=(.ite (.bop true #[v5>8,v5<14,v3 !=(.lst .nil)]) #[.ret (.call 33 #[v3,v4])] .nil)::Wc
def Ta:Ss:=(.ite (.bop true #[v5>3,v5<9,(.bf .len #[v3])<60]) #[.set [6] (.tup #[(.lst #["round","part"])[.bf .int1 #[v5>6]],((.call 32 #[v0])+(97*v1))%10000])] .nil)::Wg
def Zk1:Ss:=(.set [4] (.call 23 #[v0,v1]))::(.set [5] (v4%24))::(.set [6] .non)::(.ite (.bop true #[v5<4,(.bf .len #[v3])<60]) #[.set [6] (.call 30 #[v0,v1,v2,v4])] .nil)::Ta
abbrev Y10:Stmt:=top 49
def Z74:LS:=["_law_script","_law_many","_law_names_here","_law_lines_here","_law_stack","_law_k"]
def N0:Ss:=#[.ret (.var 3)]
def Nm:Ss:=#[.expr (.mt .pop0 (.var 4) .nil),.expr (.mt .append (.var 3) #[.tup #["done"]])]
def Ot:Ss:=(.while_ (v4 !=(.lst .nil)) Nm)::N0
def Nl:Ss:=#[.expr (.mt .append (.var 3) #[.call 34 #[v0,v5,v2,v4]])]
def Br:Ss:=(.set [2] (.call 27 #[v0]))::(.set [3] (.lst .nil))::(.set [4] (.lst .nil))::(.for_ [5] (.rng1 (.var 1)) Nl)::Ot
abbrev Zg0:Stmt:=top 50
def Fi:LS:=["_law_lines_here","_law_opened","_law_line","_law_head","_law_yes","_law_now"]
def Qb:Ss:=#[.ret v1[0][2]]
def Q7:Ss:=#[.ite (.call 29 #[v2]) #[.expr (.mt .append (.var 1) #[.lst #[v2,.non,.lst .nil]])] #[.ite (v2[0]=="else") #[.put v1[.neg (.int 1)] (.int 1) v1[.neg (.int 1)][2],.put v1[.neg (.int 1)] (.int 2) (.lst .nil)] #[.ite (v2[0]=="done") #[.setL [3,4,5] (.mt .pop0 (.var 1) .nil),.ite (v3[0] !="if") #[.expr (.mt .append v1[.neg (.int 1)][2] #[v3+(.tup #[v5])])] #[.ite (.cmp .is (.var 4) .non) #[.expr (.mt .append v1[.neg (.int 1)][2] #[((.tup #["choice"])+(.sl (.var 3) (.yes (.int 1)) .no))+(.tup #[v5,.lst .nil])])] #[.expr (.mt .append v1[.neg (.int 1)][2] #[((.tup #["choice"])+(.sl (.var 3) (.yes (.int 1)) .no))+(.tup #[v4,v5])])]]] #[.expr (.mt .append v1[.neg (.int 1)][2] #[v2])]]]]
def C8:Ss:=(.set [1] (.lst #[.lst #[.tup #["form"],.non,.lst .nil]]))::(.for_ [2] (.seq (.var 0)) Q7)::Qb
abbrev Y24:Stmt:=top 51
def Z58:LS:=["_law_lines_here","_law_marks_here","_law_stack","_law_k","_law_line"]
def O0:Ss:=#[.ret (.var 1)]
def Wt:Ss:=#[.ite (v4[0]=="done") #[.put (.var 1) (.tup #["from",v3]) v2[.neg (.int 1)],.put (.var 1) (.tup #["done",.mt .pop0 (.var 2) .nil]) (.var 3)] .nil]
def Xk:Ss:=(.ite (v4[0]=="else") #[.put (.var 1) (.tup #["else",v2[.neg (.int 1)]]) (.var 3),.put (.var 1) (.tup #["from",v3]) v2[.neg (.int 1)]] .nil)::Wt
def Nk:Ss:=(.set [4] v0[v3])::(.ite (.call 29 #[v4]) #[.expr (.mt .append (.var 2) #[v3]),.ite (v4[0] !="if") #[.put (.var 1) (.tup #["home",v4[1]]) (.var 3)] .nil] .nil)::Xk
def Z59:Ss:=(.set [1] .dictT)::(.set [2] (.lst .nil))::(.for_ [3] (.rng1 (.bf .len #[v0])) Nk)::O0
abbrev Y81:Stmt:=top 52
def Zi2:LS:=["_law_lines_here","_law_marks_here","_law_at","_law_line"]
def Tc:Ss:=#[.ret (v2+1)]
def Wh:Ss:=(.ite (v3[0]=="again") #[.ret ((v1[.tup #["home",v3[1]]])+1)] .nil)::Tc
def Xj:Ss:=(.ite (v3[0]=="leave") #[.ret ((v1[.tup #["done",v1[.tup #["home",v3[1]]]]])+1)] .nil)::Wh
def Xi:Ss:=(.ite (.bop true #[v3[0]=="done",(v0[v1[.tup #["from",v2]]][0])=="round"]) #[.ret ((v1[.tup #["from",v2]])+1)] .nil)::Xj
def Zs0:Ss:=(.set [3] v0[v2])::(.ite (v3[0]=="else") #[.ret ((v1[.tup #["done",v1[.tup #["from",v2]]]])+1)] .nil)::Xi
abbrev Zv1:Stmt:=top 53
def Z11:LS:=["_law_lines_here","_law_marks_here","_law_at","_law_turn"]
def Nj:Ss:=#[.ret (.neg (.int 1))]
def Ni:Ss:=#[.set [2] (.call 38 #[v0,v1,v2])]
def Nf:Ss:=(.ite (.bop false #[v2==(.bf .len #[v0]),v0[v2][0]∈(.lst #["sum","if","end"])]) #[.ret (.var 2)] .nil)::Ni
def Z65:Ss:=(.for_ [3] (.rng1 ((.bf .len #[v0])+1)) Nf)::Nj
abbrev Yy7:Stmt:=top 54
def Yv9:LS:=["_law_lines_here","_law_marks_here","_law_at"]
def Zf7:Ss:=#[.ret ((v1[.tup #["done",v2]])+1)]
def Yv8:Ss:=(.ite ((.tup #["else",v2])∈v1) #[.ret ((v1[.tup #["else",v2]])+1)] .nil)::Zf7
abbrev Zy4:Stmt:=top 55
def Wv:LS:=["_law_found","_law_due","_law_one","_law_other"]
def O3:Ss:=#[.ret (.bl true)]
def Ow:Ss:=#[.ite (.not (.call 41 #[v2,v3])) #[.ret (.bl false)] .nil]
def Oi:Ss:=(.for_ [2,3] (.zip #[v0,v1]) Ow)::O3
def S3:Ss:=(.ite ((.bf .len #[v0]) !=(.bf .len #[v1])) #[.ret (.bl false)] .nil)::Oi
def Sg:Ss:=(.ite (.bop true #[.bf .isinst #[v1,.ty .tuple],.not (.bf .isinst #[v0,.ty .tuple])]) #[.ret (.bl false)] .nil)::S3
def S6:Ss:=(.ite (.bop true #[.bf .isinst #[v1,.ty .list],.not (.bf .isinst #[v0,.ty .list])]) #[.ret (.bl false)] .nil)::Sg
def Ws:Ss:=(.ite (.bf .isinst #[v1,.ty .str]) #[.ret (.bop true #[.bf .isinst #[v0,.ty .str],v0==v1])] .nil)::S6
def Xl:Ss:=(.ite (.bf .isinst #[v1,.ty .int]) #[.ret (.bop true #[.bf .isinst #[v0,.ty .int],.not (.bf .isinst #[v0,.ty .bool]),v0==v1])] .nil)::Ws
def V1:Ss:=(.ite (.bf .isinst #[v1,.ty .bool]) #[.ret (.bop true #[.bf .isinst #[v0,.ty .bool],v0==v1])] .nil)::Xl
abbrev Zf0:Stmt:=top 56
def Fe:LS:=["_law_script","_law_names_here","_law_memory_here","_law_k","_law_number"]
def Qh:Ss:=#[.ret (.var 2)]
def Ve:Ss:=#[.ite ((v4%4)==1) #[.put (.var 2) v1[v3] (((v4/4)%41)-20)] .nil]
def Qm:Ss:=(.set [4] (.call 23 #[v0,920+v3]))::(.ite ((v4%4)==0) #[.put (.var 2) v1[v3] (((.call 22 #[v0,920+v3])%((2*(.bin .pow (.int 10) (.int 18)))+1))-(.bin .pow (.int 10) (.int 18)))] .nil)::Ve
def E8:Ss:=(.set [2] .dict0)::(.for_ [3] (.rng1 (.int 5)) Qm)::Qh
abbrev Po:Stmt:=top 57
def V5:LS:=["_law_found","_law_due","_law_name"]
def Xw:Ss:=#[.ret (.bl true)]
def Xx:Ss:=#[.ite (.bop false #[.cmp .notin (.var 2) (.var 0),.not (.call 41 #[v0[v2],v1[v2]])]) #[.ret (.bl false)] .nil]
def Xu:Ss:=(.forK [2] (.var 1) Xx)::Xw
def V8:Ss:=(.ite (.bop false #[.not (.bf .isinst #[v0,.ty .dict]),(.bf .len #[v0]) !=(.bf .len #[v1])]) #[.ret (.bl false)] .nil)::Xu
abbrev Y07:Stmt:=top 58
def Z27:LS:=["_law_operand_here","_law_memory_here"]
def N4:Ss:=#[.ret (.var 0)]
def Z53:Ss:=(.ite (.bf .isinst #[v0,.ty .str]) #[.ret (.mt .get2 (.var 1) #[v0,0])] .nil)::N4
abbrev Ya5:Stmt:=top 59
def Zr8:LS:=["_law_sign_here","_law_one","_law_other"]
def Gj:Ss:=#[.ret (v1%v2)]
def E1:Ss:=(.ite (v0=="/") #[.ret (v1/v2)] .nil)::Gj
def Et:Ss:=(.ite (v2==0) #[.ret .non] .nil)::E1
def Fy:Ss:=(.ite (v0=="^") #[.ret (.bin .bxor (.var 1) (.var 2))] .nil)::Et
def Gr:Ss:=(.ite (v0=="&") #[.ret (.bin .band (.var 1) (.var 2))] .nil)::Fy
def C7:Ss:=(.ite (v0=="-") #[.ret (v1-v2)] .nil)::Gr
def Zs9:Ss:=(.ite (v0=="+") #[.ret (v1+v2)] .nil)::C7
abbrev Yf1:Stmt:=top 60
def Zs4:LS:=["_law_line","_law_memory_here","_law_one","_law_other"]
def Eg:Ss:=#[.ret (.tup #["sum",v0[1],v2,v0[3],v3,.call 45 #[v0[3],v2,v3]])]
def Zq5:Ss:=(.set [2] (.call 44 #[v0[.neg (.int 3)],v1]))::(.set [3] (.call 44 #[v0[.neg (.int 1)],v1]))::(.ite (v0[0]=="if") #[.ret (.tup #["test",v2,v0[2],v3,.bop false #[.bop true #[v0[2]=="<",v2<v3],.bop true #[v0[2]=="=",v2==v3]]])] .nil)::Eg
abbrev Ym7:Stmt:=top 61
def Y50:LS:=["_law_lines_here","_law_memory_here","_law_most","_law_marks_here","_law_deeds","_law_at","_law_deed_here"]
def Bp:Ss:=#[.ret (.tup #[v4,"on",v1])]
def J1:Ss:=(.ite (.bop true #[.cmp .ge (.var 5) (.int 0),.bop false #[v5==(.bf .len #[v0]),v0[v5][0]=="end"]]) #[.ret (.tup #[v4,"end",v1])] .nil)::Bp
def Jy:Ss:=#[.expr (.mt .append (.var 4) #[v6]),.ite (v6[0]=="sum") #[.put (.var 1) v6[1] v6[5],.set [5] (.call 39 #[v0,v3,v5+1])] #[.ite v6[4] #[.set [5] (.call 39 #[v0,v3,v5+1])] #[.set [5] (.call 39 #[v0,v3,.call 40 #[v0,v3,v5]])]]]
def Z30:Ss:=(.set [6] (.call 46 #[v0[v5],v1]))::(.ite (.cmp .is v6[.neg (.int 1)] .non) #[.ret (.tup #[v4,"fault",v1])] .nil)::Jy
def Y67:Ss:=(.set [3] (.call 37 #[v0]))::(.set [1] (.bf .dict1 #[v1]))::(.set [4] (.lst .nil))::(.set [5] (.call 39 #[v0,v3,0]))::(.while_ (.bop true #[.cmp .ge (.var 5) (.int 0),v5<(.bf .len #[v0]),v0[v5][0] !="end",(.bf .len #[v4])<v2]) Z30)::J1
abbrev Yd6:Stmt:=top 62
def Zi5:LS:=["_law_found","_law_due"]
def Fn:Ss:=#[.ret (.call 43 #[v0[2],v1[2]])]
def Ew:Ss:=(.ite (.bop false #[.not (.call 41 #[v0[0],v1[0]]),.not (.call 41 #[v0[1],v1[1]])]) #[.ret (.bl false)] .nil)::Fn
def Zr6:Ss:=(.ite (.bop false #[.not (.bf .isinst #[v0,.ty .tuple]),(.bf .len #[v0]) !=3]) #[.ret (.bl false)] .nil)::Ew
abbrev Cr:Stmt:=top 63
def Zu5:LS:=["_law_script","_law_lines_here","_law_names_here","_law_memory_here","_law_most","_law_form","_law_start","_law_found","_law_due","_law_other"]
def Ys3:FnScope Zu5 ["_law_script"] (Zc Cr):=⟨rfl,rfl,rfl,'k',rfl,'k','k'⟩
def Zp5:Ss:=#[.ret (.bop true #[.call 48 #[.call 21 #[.call 36 #[v1],v3,v4],v8],.call 48 #[v7,v8]])]
def Jp:Ss:=(.expr (.mt .clear (.var 5) .nil))::(.expr (.mt .clearD (.var 6) .nil))::(.set [9] (.call 21 #[.lst #[.tup #["sum",v2[0],7,"-",v2[1]]],.dct v2[1] (.int 3),2]))::(.ite (.bop false #[.not (.call 41 #[v9[1],"end"]),(.bf .len #[v9[0]]) !=1]) #[.ret (.bl false)] .nil)::Zp5
def Zr9:Ss:=(.ite (.not (.call 41 #[v5,.call 36 #[v1]])) #[.ret (.bl false)] .nil)::Jp
def Nt:Ss:=(.set [8] (.call 47 #[v1,v3,v4]))::(.ite (.bop false #[.not (.call 48 #[v7,v8]),.not (.call 43 #[v6,v3])]) #[.ret (.bl false)] .nil)::Zr9
def Yc0:Ss:=(.set [1] (.call 35 #[v0,.bf .max2 #[1,.bf .min2 #[.bf .len #[v0],60]]]))::(.set [2] (.call 27 #[v0]))::(.set [3] (.call 42 #[v0,v2]))::(.set [4] (((.call 23 #[v0,940])/8)%120))::(.set [5] (.call 36 #[v1]))::(.set [6] (.bf .dict1 #[v3]))::(.ite ((((.call 23 #[v0,941])/8)%4)==0) #[.set [4] (.int 100),.set [7] (.call 51 #[v5,v6])] #[.set [7] (.call 21 #[v5,v6,v4])])::Nt
end
def Yx5:V3 (ck0 Zu5 Cr FN GN BN) Yc0 (Zr Cr)=true:='k'
def Yv4:Stmt->Stmt
 | .ClassDef _ _ _ (b::_) _ _ _ _ _ _ _=>b
 | s=>s
abbrev Fg:Stmt:=Yv4 (top 14)
def Ye5:FnScope ["self","row"] ["self","row"] (Zc Fg):=⟨rfl,rfl,rfl,'k',rfl,'k','k'⟩
def Yk2:Y87 Fg=true:='k'
set_option hygiene false
local macro_rules | `(tactic| walk_at "ev")=>do
 let ids:=("tss sret9 sexpr9 ssetL9 sset9 sput9 site9 sfor_9 sforK9 swhile_9 sraise9 stryN9 evar9 eint9 ebl9 enon9 estr9 ety9 eglb9 ebin9 eneg9 enot9 ecmp9 ebop9 eife9 elst9 etup9 edict09 edictT9 edct9 eix9 esl9 ecall9 ebf9 eslW9 elrev9 emt9 ecomp9 lnil09 lcons19 ono09 oyes19 iseq09 irng119 ienm29 izip39 dno09 dyes19 bnil09 bcons19 bcons29 tt op_add_i op_add_s op_add_t op_add_l op_sub_i op_mul_i op_mul_l op_fdiv_i op_mod_i op_pow_i op_and_i op_xor_i cm_lt_i cm_gt_i cm_ge_i cm_eq cm_ne cm_in cm_notin cm_is_n cm_is_i cm_is_s cm_is_b cm_is_t cm_is_r eq_i eq_s eq_b eq_nn eq_is eq_si tru_b tru_i tru_n tru_t ix_t ix_g ix_s sl_s sl_t sl_l is_non is_bl is_int is_str is_tup tyNon tyBl tyInt tyStr tyTup tyLst tyDct bf_len_t bf_len_s bf_is bf_min bf_max bf_dict bf_int on_ref set_f mt_setd_r mk_setd ati0 ati1 ati2 ati3 ati4 ati5 Option.some.injEq exists_eq_left' ofS_inj String.reduceEq mt_append_r mt_get2_r mt_pop_r mt_clear_r mt_extend_r mk_append mk_pop mk_clear mk_get2 mk_extend tg_one tg_two it_r it_t it_g key_i key_s in_ss start0 List.map_cons List.map_nil List.length_cons List.length_nil List.cons_append List.nil_append List.append_nil List.replicate List.set_cons_zero List.set_cons_succ List.getElem?_cons_zero List.getElem?_cons_succ Nat.reduceAdd Nat.reduceSub Nat.sub_self Nat.zero_add decide_eq_true_eq ne_eq Int.reduceEq not_false_eq_true true_and Bool.not_eq_true' decide_eq_false_iff_not Bool.false_eq_true if_true if_false Bool.not_true Bool.not_false".splitOn " ").toArray.map fun s=>Lean.mkIdent s.toName
 `(tactic| first | (dsimp only[$[$ids:ident],*];try simp only[$[$ids:ident],*]) | simp only[$[$ids:ident],*])
set_option hygiene false
local macro_rules | `(tactic| walk_at "gp")=>do
 let ids:=("tss_nil tss_cons sret9 sexpr9 ssetL9 sset9 sput9 site9 sfor_9 sforK9 swhile_9 sraise9 stryN9 evar9 eint9 ebl9 enon9 estr9 ety9 eglb9 ebin9 eneg9 enot9 ecmp9 ebop9 eife9 elst9 etup9 edict09 edictT9 edct9 eix9 esl9 ecall9 ebf9 eslW9 elrev9 emt9 ecomp9 lnil09 lcons19 ono09 oyes19 iseq09 irng119 ienm29 izip39 dno09 dyes19 bnil09 bcons19 bcons29 tt op_add_i op_add_s op_add_t op_add_l op_sub_i op_mul_i op_mul_l op_fdiv_i op_mod_i op_pow_i op_and_i op_xor_i cm_lt_i cm_gt_i cm_ge_i cm_eq cm_ne cm_in cm_notin cm_is_n cm_is_i cm_is_s cm_is_b cm_is_t cm_is_r eq_i eq_s eq_b eq_nn eq_is eq_si tru_b tru_i tru_n tru_t ix_t ix_g ix_s sl_s sl_t sl_l is_non is_bl is_int is_str is_tup tyNon tyBl tyInt tyStr tyTup tyLst tyDct bf_len_t bf_len_s bf_is bf_min bf_max bf_dict mt_setd_r mk_setd ati0 ati1 ati2 ati3 ati4 ati5 Option.some.injEq exists_eq_left' ofS_inj String.reduceEq not_true_eq_false bf_int at2_xy onRef_r mt_append_r mt_get2_r mt_clearD_r mk_clearD mt_pop_r mt_clear_r mt_extend_r mk_append mk_pop mk_clear mk_get2 mk_extend tg_one tg_two it_r it_t it_g key_i key_s in_ss start0 List.map_cons List.map_nil List.length_cons List.length_nil List.cons_append List.nil_append List.append_nil List.replicate List.set_cons_zero List.set_cons_succ List.getElem?_cons_zero List.getElem?_cons_succ Nat.reduceAdd Nat.reduceSub Nat.sub_self Nat.zero_add decide_eq_true_eq ne_eq Int.reduceEq not_false_eq_true true_and Bool.not_eq_true' decide_eq_false_iff_not Bool.false_eq_true Bool.true_eq_false if_true if_false Bool.not_true Bool.not_false".splitOn " ").toArray.map fun s=>Lean.mkIdent s.toName
 let gs ←(Array.range 28).mapM fun i=>`(tactic| try simp only[$(Lean.mkIdent (Lean.Name.mkSimple s!"g{i}")):ident])
 `(tactic| ((try dsimp only[$[$ids:ident],*]);(try simp only[$[$ids:ident],*]);$[$gs:tactic];*))
local macro_rules | `(tactic| walk_at "ew")=>`(tactic| (walk_at "gp";repeat (with_reducible refine Qk ?_;walk_at "gp")))
structure Ks(F:Nat->Prop)(M M':Z2):Prop where
 at':∀a,¬F a->a<M.length->M'[a]?=M[a]?
 len:M.length<=M'.length
abbrev Kp:Z2->Z2->Prop:=Ks fun _=>False
def Ks.refl(M:Z2):Ks F M M:=⟨fun _ _ _=>rfl,nc _⟩
def Ks.trans{M M' b:Z2}(h:Ks F M M')(g:Ks F M' b):Ks F M b:=⟨fun a n l=>(g.at' a n (ni l h.len)).trans (h.at' a n l),nj h.len g.len⟩
def Ks.mono(h:Ks F M M')(k:∀a,a<M.length->F a->G a):Ks G M M':=⟨fun a n l=>h.at' a (fun z=>n (k a l z)) l,h.len⟩
def Ks.app(h:Ks F M M')(N:Z2):Ks F M (M'++N):=⟨fun a n l=>by rw[Dn (ni l h.len)];show h.at' a n l,nj h.len (by rw[Ae];lia)⟩
def Ks.new(M N:Z2):Ks F M (M++N):=(Ks.refl M).app N
def Ks.set(h:Ks F M M'){a:Nat}{c:Cell}(d:F a\/M.length<=a):Ks F M (M'.set a c):=⟨fun b n l=>by
 have:a≠b:=by
  rintro rfl
  rcases d with z | z
  .exact n z
  .lia
 rw[Db this];show h.at' b n l,by rw[Dx];show h.len⟩
def Zd{n:Nat}(h:Z7 M n=some xs):n<M.length:=by
 unfold Z7 at h
 rcases Nat.lt_or_ge n M.length with l | l
 .exact l
 .rw[Dh l] at h
  cases h
def Ks.L{a:Nat}(h:Ks F M M')(n:¬F a)(e:Z7 M a=some xs):Z7 M' a=some xs:=by
 unfold Z7 at e ⊢
 rw[h.at' a n (Zd (M:=M) (xs:=xs) e)];show e
def Ks.W{a:Nat}(h:Ks F M M')(n:¬F a)(e:Z4 M a=some xs):Z4 M' a=some xs:=by
 have l:=Zd (Z1 e)
 unfold Z4 at e ⊢
 rw[h.at' a n l];show e
def Ks.pL{M M':Z2}{a:Nat}{xs:LD}(h:Kp M M')(e:Z7 M a=some xs):Z7 M' a=some xs:=h.L (fun z=>z) e
def Ks.pW{M M':Z2}{a:Nat}{xs:LD}(h:Kp M M')(e:Z4 M a=some xs):Z4 M' a=some xs:=h.W (fun z=>z) e
def Zh{M:Z2}{n:Nat}{xs:LD}(h:n<M.length):Z4 (M.set n (.lst xs)) n=some xs:=by
 unfold Z4
 rw[Di h]
def qm{i j:Int}(h:0<j):qmod i j=i % j:=Y11 h
def qd{i j:Int}(h:0<j):qdiv i j=i / j:=Y33 h
def Ym2{i:Int}{d:D}(h0:0<=i)(h:xs[i.toNat]?=some d):atI xs i=some d:=by
 have:=Xq h
 rwa[Int.toNat_of_nonneg h0] at this
def X01{xs:LD}{i:Int}(h0:0<=i)(h:i<xs.length):∃d,atI xs i=some d/\d∈xs:=by
 have a:i.toNat<xs.length:='o'
 show⟨xs[i.toNat],Ym2 h0 (Ag a),Hz a⟩
def ix_m{n:Nat}{i m:Int}(h:Z7 M n=some xs)(a:m=xs.length)(h0:0<xs.length)(q:∀d,d∈xs->F d):ixD M (.ref n) (.int (qmod i m)) F:=by
 subst a
 rw[qm 'o']
 let⟨d,e,c⟩:=X01 (xs:=xs) (nw i (b:=(xs.length:Int)) 'o') (nv i 'o')
 show Tf h e (q d c)
def Yq9{z:Str}{i m:Int}{F:D->Prop}(d:m=z.length)(h0:0<z.length)(hz:z.length<=1000)(q:∀c∈Tt.L z,F (.str ⟨#[c]⟩)):z.length<=sizeLine/\∃c,atI z.cps.toList (qmod i m)=some c/\F (.str ⟨#[c]⟩):=by
 subst d
 rw[qm 'o']
 have e:=nw i (b:=(z.length:Int)) 'o'
 have f:=nv i (b:=(z.length:Int)) 'o'
 have a:(i % (z.length:Int)).toNat<z.cps.toList.length:=by rw[Kc];change _<z.length;lia
 refine⟨Z0 'o',z.cps.toList[(i % (z.length:Int)).toNat],?_,q _ (Hz a)⟩
 have:=Xq (Ag a)
 rwa[Int.toNat_of_nonneg e] at this
def Yu(a b:Str):(a++b).length=a.length+b.length:=by
 show(a.cps++b.cps).size=_
 rw[Array.size_append];rfl
def Scr(M:Z2)(a:Nat):Prop:=∃b:List Int,Z7 M a=some (b.map .int)/\b.length<=63
def Scr.ks{a:Nat}(h:Scr M a)(k:Ks F M M')(n:¬F a):Scr M' a:=by let⟨b,e,l⟩:=h;show⟨b,k.L n e,l⟩
def rawI(a:List Int)(k:Nat):Int:=if a.length=0 then k else a.getD (k % a.length) 0
def mixI(a:List Int)(k:Nat):Int:=if a.length=0 then((k:Int) * k+3) * 48271 % 2147483647 else(rawI a k % 2147483629+2) * (48271+7 * ((k:Int) / (a.length:Int)) * ((k:Int) / (a.length:Int))) % 2147483647
def Z88:DSp:=fun c M Q _=>∃(a k:Nat),c=[.ref a,.int k]/\Scr M a/\∀v,(∀b,Z7 M a=some (b.map .int)->v=rawI b k)->Q (.int v) M
def Gs:DSp:=fun c M Q _=>∃(a k:Nat),c=[.ref a,.int k]/\Scr M a/\k<=1000/\∀v:Nat,v<2147483647->(∀b,Z7 M a=some (b.map .int)->(v:Int)=mixI b k)->Q (.int v) M
def Z38{a b:List Int}(h:a.map D.int=b.map D.int):a=b:=by
 have:=congrArg (List.map fun d=>match d with | D.int i=>i | _=>0) h
 rw[List.map_map,List.map_map] at this
 simpa[Function.comp_def] using this
def kept:LS:=["if","jump","end","rest","round","part","leave","again","else","done"]
def Of:DSp:=fun a M Q _=>a=[]/\Q (.ref M.length) (M++[.lst (kept.map D.str)])
abbrev Nam(x:Str):Prop:=x.length<=8
def Oq:DSp:=fun a M Q _=>∃(n:Int) (b:Bool),a=[.int n,.bl b]/\∀c:Nat,Q (.str ⟨#[c]⟩) M
def Z67:DSp:=fun a M Q _=>∃(n:Int) (s:Nat),a=[.int n,.int s]/\s<=8/\∀x:Str,x.length=s->Q (.str x) M
def Qp:DSp:=fun c M Q _=>∃a:Nat,c=[.ref a]/\Scr M a/\∀(l:LS) b r,l.length=5->(∀x∈l,Nam x)->Kp M b->Z7 b r=some (l.map D.str)->Q (.ref r) b
inductive Opd where
 | nm (x:Str) | no (i:Int)
def Opd.d:Opd->D
 | .nm x=> .str x
 | .no i=> .int i
def Opd.ok:Opd->Prop
 | .nm x=>Nam x
 | .no i=> -1000000000000000000<i/\i<1000000000000000000
def Nms(M:Z2)(r:Nat):Prop:=∃l:LS,l.length=5/\(∀x∈l,Nam x)/\Z7 M r=some (l.map D.str)
def Nms.ks{a:Nat}(h:Nms M a)(k:Ks F M M')(n:¬F a):Nms M' a:=by let⟨b,l,o,e⟩:=h;show⟨b,l,o,k.L n e⟩
def Tw:DSp:=fun b M Q _=>∃(a k r n:Nat),b=[.ref a,.int k,.ref r,.int n]/\Scr M a/\Nms M r/\∀o:Opd,o.ok->Q o.d M
section
variable{K:Ab}
def Ym3{Γ G}:Rd K Γ G Z88 Y72 Y52:=by
 rintro ds M Q Z ⟨a,k,rfl,⟨c,d,j⟩,q⟩
 have b:Q (.int (rawI c k)) M:=q _ fun i e=>by rw[d] at e;rw[Z38 (Dg e)]
 unfold rawI at b
 delta Y72 Y52
 rfl'
 refine Zg d ?_
 rfl'
 split
 .rename_i h
  rw[nh ↥h] at b
  show b
 .rename_i h
  have g:¬c.length=0:=by simpa using h
  rw[ng g] at b
  delta Z21
  rfl'
  refine Zg d ⟨'o',?_⟩
  rw[qm 'o',Af,show(k:Int) % (c.length:Int)=((k % c.length:Nat):Int) by lia]
  have f:k % c.length<c.length:=Nat.mod_lt _ 'o'
  refine ix_l d (by rw[Ao,Ag f];rfl) ?_
  rw[Hb,Ag f] at b
  show b
def mixR{M:Z2}{Q:DK}{v w:Int}(e:v % 2147483647=w)(q:∀v:Nat,v<2147483647->(v:Int)=w->Q (.int v) M):Q (.int (qmod v 2147483647)) M:=by
 rw[qm 'd']
 have a:=nw v (show(2147483647:Int)≠0 by decide)
 have b:=nv v (show(0:Int)<2147483647 by decide)
 have:=q (v % 2147483647).toNat 'o' 'o'
 rwa[Int.toNat_of_nonneg a] at this
def Yo2{Γ G}(g:Γ[22]?=some Z88):Rd K Γ G Gs Y65 Y49:=by
 rintro ds M Q Z ⟨a,k,rfl,f,r,q⟩
 let⟨b,c,p⟩:=id f
 have d:∀v:Nat,v<2147483647->(v:Int)=mixI b k->Q (.int v) M:=fun v n m=>q v n fun o e=>by rw[c] at e;rw[<-Z38 (Dg e)];show m
 delta Y65 Y49
 rfl'
 refine Zg c ?_
 rfl'
 split
 .rename_i h
  refine⟨mulR 'o' 'o',mulR 'd' 'd',mixR ?_ d⟩
  unfold mixI
  rw[nh ↥h]
 .rename_i h
  delta Z68
  rfl'
  have i:(0:Int)< (b.map D.int).length:='o'
  refine Zg c ⟨Zi i (by rw[Af];lia),?_⟩
  rw[qd i]
  have j:0<=(k:Int) / (b.map D.int).length:=Int.ediv_nonneg 'o' 'o'
  have s:(k:Int) / (b.map D.int).length<=k:=Int.ediv_le_self _ 'o'
  simp only[g]
  refine⟨a,k,rfl,f,fun v l=>?_⟩
  rfl'
  refine⟨mulL 'd' 'd',mulR 'o' 'o',mulR ?_ ?_,mixR ?_ d⟩
  .have:0<=7 * ((k:Int) / (b.map D.int).length) * ((k:Int) / (b.map D.int).length):=Int.mul_nonneg 'o' j
   lia
  .have:7 * ((k:Int) / (b.map D.int).length) * ((k:Int) / (b.map D.int).length)<=7000 * 1000:=Int.mul_le_mul 'o' 'o' j 'd'
   lia
  .unfold mixI
   rw[ng ↥h,l b c,qm 'd',Af]
def Yb9{Γ G}:Rd K Γ G Of Zm3 Zp1:=by
 rintro ds M Q Z ⟨rfl,q⟩
 delta Zm3 Zp1
 rfl'
 show⟨Z0 'd',q⟩
def Yc7{Γ G}:Rd K Γ G Oq Zl3 Ze5:=by
 rintro ds M Q Z ⟨n,b,rfl,q⟩
 delta Zl3 Ze5
 rfl'
 split
 .refine Yq9 (F:=fun d=>Q d M) (z:="abcdefghijklmnopqrstuvwxyz") ?_ ?_ ?_ (fun c _=>q c)<;>decide+kernel
 .delta Ec
  rfl'
  refine Yq9 (F:=fun d=>Q d M) (z:="abcdefghijklmnopqrstuvwxyz0123456789") ?_ ?_ ?_ (fun c _=>q c)<;>decide+kernel
def Y97{Γ G}(g:Γ[25]?=some Oq):Rd K Γ G Z67 Zr5 Zr0:=by
 rintro ds M Q Z ⟨n,s,rfl,j,q⟩
 delta Zr5 Zr0
 rfl'
 refine⟨'o','o',?_⟩
 rw[Int.toNat_natCast]
 refine Xm (fun i a e=>∃(n:Int) (x:Str) (d:Option D),a=[some (.int n),some (.int s),some (.str x),d]/\e=M/\x.length=i) ⟨n,_,none,rfl,rfl,rfl⟩ ?_ ?_
 .rintro i a e C k ⟨n,x,d,rfl,rfl,b⟩ h
  delta C1
  rfl'
  refine⟨mulR 'd' 'd',Zi 'd' 'd',?_⟩
  simp only[g]
  refine⟨_,_,rfl,fun c=>?_⟩
  rfl'
  have f:(⟨#[c]⟩:Str).length=1:=rfl
  show⟨Z0 'o',h _ _ ⟨_,_,_,rfl,rfl,by rw[Yu,b,f]⟩⟩
 .rintro a e ⟨n,x,d,rfl,rfl,b⟩
  delta E6
  rfl'
  show q x b
end
section
variable{K:Ab}
def Zp0(x:Str){i:Int}(h:0<=i):(Lz x (some i) none).length<=x.length:=by
 rcases Int.lt_or_le i x.length with l | l
 .have:=(fact_slice_sn x i).1 h 'o'
  lia
 .have:=(fact_slice_sn x i).2 l
  lia
def Yx3(x:Str){i:Int}(h:0<=i):(Lz x none (some i)).length<=x.length:=by
 rcases Int.lt_or_le i x.length with l | l
 .have:=(fact_slice_ns x i).1 h 'o'
  lia
 .have:=(fact_slice_ns x i).2 l
  lia
def Zm6(l:LS):(l.map D.str).all Y0=true:=by
 rw[Hm]
 intro d h
 let⟨x,_,rfl⟩:=Hy.mp h
 rfl
def NmI(a:Nat)(M:Z2)(f:Nat)(stem:Str)(t:Nat)(i:Nat)(w:Option D)(b:DEnv)(M':Z2):Prop:=∃(l:LS) (d c:Option D),b=[↑a,some (.int f),some (.str stem),some (.int t),↑M.length,d,c,w]/\Kp M M'/\Z4 M' M.length=some (l.map D.str)/\l.length=i/\∀x∈l,Nam x
def nm_2{Γ G}{P:DEnds}{a f t i:Nat}{stem x:Str}{l:LS}(g:Nam x)(k:Kp M M')(e:Z4 M' M.length=some (l.map D.str))(m:l.length=i)(j:∀x∈l,Nam x)(hi:i<5)
  (h:∀b c,(∃w,NmI a M f stem t (i+1) w b c)->P.nx b c):tss ⟨K,Γ,G⟩ noX S4 P [↑a,some (.int f),some (.str stem),some (.int t),↑M.length,d5,d6,some (.str x)] M':=by
 delta S4
 rfl'
 refine⟨Z5 (Z1 e),_,e,Z3 (by rw[Af];lia),h _ _ ⟨_,l++[x],_,_,rfl,k.set (.inr (nc _)),?_,by rw[Ae,m];rfl,fun y d=>(Az.mp d).elim (j y) fun z=>by rw[Am.mp z];show g⟩⟩
 rw[Zh (Zd (Z1 e)),Aw]
 rfl
def nm_3{Γ G}(g:Γ[24]?=some Of){P:DEnds}{a f t i:Nat}{stem x:Str}{l:LS}(o:x.length<=8)(k:Kp M M')(e:Z4 M' M.length=some (l.map D.str))(j:l.length=i)(d:∀x∈l,Nam x)(hi:i<5)
  (h:∀b n,(∃w,NmI a M f stem t (i+1) w b n)->P.nx b n):tss ⟨K,Γ,G⟩ noX Sj P [↑a,some (.int f),some (.str stem),some (.int t),↑M.length,d5,d6,some (.str x)] M':=by
 delta Sj
 rfl'
 simp only[g]
 refine⟨rfl,.inl ⟨_,Zj _ _ [],rfl,Zm6 _,?_⟩⟩
 rfl'
 have c:Kp M (M'++[.lst (kept.map D.str)]):=k.app _
 have m:=Z8 (N:=[.lst (kept.map D.str)]) e
 split
 .refine⟨Z0 'o',?_⟩
  have:=Zp0 x (show(0:Int)<=1 by decide)
  have r:("q":Str).length=1:='k'
  have p:(Lz x (some 1) none).length<=7:=by
   have f:=fact_slice_sn x 1
   rcases Int.lt_or_le 1 x.length with l | l
   .have:=f.1 'd' 'o';lia
   .have:=f.2 l;lia
  show⟨Z0 'o',nm_2 (by show(_++_:Str).length<=8;rw[Yu];lia) c m j d hi h⟩
 .exact nm_2 o c m j d hi h
def nm_4{Γ G}(g:Γ[24]?=some Of)(s:Γ[25]?=some Oq){P:DEnds}{a f t i v:Nat}{stem x:Str}{l:LS}(r:x.length<=8)(k:Kp M M')(e:Z4 M' M.length=some (l.map D.str))(n:l.length=i)(m:∀x∈l,Nam x)(hi:i<5)
  (h:∀j o,(∃w,NmI a M f stem t (i+1) w j o)->P.nx j o):tss ⟨K,Γ,G⟩ noX S5 P [↑a,some (.int f),some (.str stem),some (.int t),↑M.length,some (.int i),some (.int v),some (.str x)] M':=by
 delta S5
 rfl'
 have b:=nm_3 (G:=G) (P:=P) (a:=a) (f:=f) (t:=t) (stem:=stem) (d5:=some (.int i)) (d6:=some (.int v)) (K:=K) g (x:=x) r k e n m hi h
 have c:∀y∈kept,y.length<=5:='k'
 split
 .split
  .simp only[g]
   refine⟨rfl,Zi 'd' 'd',ix_m (Zj _ _ []) rfl 'd' fun d q=>?_⟩
   let⟨y,p,rfl⟩:=Hy.mp q
   refine⟨Zi 'd' 'd',?_⟩
   simp only[s]
   refine⟨_,_,rfl,fun z=>?_⟩
   have u:=c y p
   have A:(⟨#[z]⟩:Str).length=1:=rfl
   rfl'
   show⟨Z0 'o',nm_3 g (by rw[Yu];lia) (k.app _) (Z8 e) n m hi h⟩
  .exact b
 .exact b
def Y35{Γ G}(D:Γ[23]?=some Gs)(E:Γ[24]?=some Of)(m:Γ[25]?=some Oq)(B:Γ[26]?=some Z67):Rd K Γ G Qp Z51 Z63:=by
 rintro ds M Q Z ⟨a,rfl,y,q⟩
 have p:∀v:Nat,∃s:Nat,s<8/\qmod (qdiv (v:Int) 8) 8=s:=by
  intro v
  rw[qm 'd',qd 'd']
  have h1:=nw ((v:Int) / 8) (show(8:Int)≠0 by decide)
  have h2:=nv ((v:Int) / 8) (show(0:Int)<8 by decide)
  show⟨((v:Int) / 8 % 8).toNat,'o','o'⟩
 delta Z51 Z63
 rfl'
 simp only[D]
 refine⟨a,901,rfl,y,'d',fun f Y _=>?_⟩
 rfl'
 refine⟨Zi 'd' 'd',?_⟩
 simp only[B]
 let⟨j,I,N⟩:=p f
 rw[N]
 refine⟨_,j+1,by rw[show(1:Int)+j=((j+1:Nat):Int) by lia],'o',fun b H=>?_⟩
 rfl'
 refine⟨Zi 'd' 'd',Z0 'o','o',Z0 'd','d','d',?_⟩
 rw[qm (show(0:Int)<b.length by lia)]
 have S:=nw (qdiv (f:Int) 64) (show(b.length:Int)≠0 by lia)
 have R:=nv (qdiv (f:Int) 64) (show(0:Int)<b.length by lia)
 obtain⟨t,X,L⟩:∃t:Nat,t<b.length/\qdiv (f:Int) 64 % b.length=t:=⟨(qdiv (f:Int) 64 % b.length).toNat,'o','o'⟩
 rw[L]
 refine Xm (fun i g o=>∃w,NmI a M f b t i w g o) ⟨none,[],none,none,rfl,Ks.new _ _,Za _ _ [],rfl,fun x u=>by cases u⟩ ?_ ?_
 .rintro i g o C J ⟨w,l,P,O,rfl,k,e,d,c⟩ A
  have r:i<5:=J
  (delta Py;simp only[Int.zero_add])
  rfl'
  simp only[D]
  refine⟨a,902+i,by rw[show(902:Int)+i=((902+i:Nat):Int) by lia],y.ks k (fun z=>z),'o',fun v W _=>?_⟩
  rfl'
  refine⟨Z0 'o',Zi 'd' 'd',mulL 'd' 'd',?_⟩
  simp only[m]
  refine⟨_,_,rfl,fun z=>?_⟩
  rfl'
  have T:(⟨#[z]⟩:Str).length=1:=rfl
  have V:=Yx3 b (show(0:Int)<=t by lia)
  have U:=Zp0 b (show(0:Int)<=t+1 by lia)
  refine⟨Z0 'o',Z0 'o',Z0 (by rw[Yu];lia),?_⟩
  split
  .refine⟨Zi 'd' 'd',?_⟩
   simp only[B]
   let⟨h,F,n⟩:=p v
   rw[n]
   show⟨_,h+1,by rw[show(1:Int)+h=((h+1:Nat):Int) by lia],'o',fun x u=>nm_4 E m 'o' k e d c r A⟩
  .refine nm_4 E m ?_ k e d c r A
   have a1:=(fact_slice_ns b t).1 'o' 'o'
   have a2:(Lz b (some ((t:Int)+1)) none).length<=b.length - t - 1:=by
    rcases Int.lt_or_le ((t:Int)+1) b.length with l | l
    .have:=(fact_slice_sn b (t+1)).1 'o' 'o';lia
    .have:=(fact_slice_sn b (t+1)).2 l;lia
   rw[Yu,Yu];lia
 .rintro g o ⟨w,l,P,O,rfl,k,e,d,c⟩
  delta O9
  rfl'
  show q l _ _ d c k (Z1 e)
def Z83{Γ G}(g:Γ[22]?=some Z88):Rd K Γ G Tw Oa O5:=by
 rintro ds M Q Z ⟨a,k,r,n,rfl,m,⟨l,s,p,o⟩,q⟩
 have h:∀i:Int,-1000000000000000000<i->i<1000000000000000000->Q (.int i) M:=fun i y w=>q (.no i) ⟨y,w⟩
 delta Oa O5
 rfl'
 split
 .refine⟨Zi 'd' 'd',ix_m o (by rw[Af,s];rfl) (by rw[Af];lia) fun d t=>?_⟩
  let⟨x,j,rfl⟩:=Hy.mp t
  show q (.nm x) (p x j)
 .delta Rh
  rfl'
  split
  .rw[qm 'd']
   show⟨Zi 'd' 'd',h _ 'o' 'o'⟩
  .delta Sx
   rfl'
   simp only[g]
   have c:CPow 10 18:=⟨'d','d','d'⟩
   have f:(10:Int) ^ (18:Int).toNat=1000000000000000000:='d'
   have A:=nw (qdiv (n:Int) 24) (show(1000:Int)≠0 by decide)
   have z:=nv (qdiv (n:Int) 24) (show(0:Int)<1000 by decide)
   refine⟨a,k,rfl,m,fun v _=>?_⟩
   rfl'
   refine⟨c,'d',Zi 'd' 'd',mulR (by rw[qm 'd'];lia) (by rw[qm 'd'];lia),c,'d',Zi 'd' 'd',?_⟩
   have e:∀b:Int,0<=b->b<1000000000000000000->tss ⟨K,Γ,G⟩ noX Wm {nx:=fun _ M=>Q .non M,rt:=Q} [↑a,some (.int k),↑r,some (.int n),some (.int b)] M:=by
    intro b u B
    delta Wm
    rfl'
    refine⟨Zi 'd' 'd',?_⟩
    split
    .exact h _ 'o' 'o'
    .delta Sz
     rfl'
     show h _ 'o' 'o'
   split
   .refine⟨c,Zi 'd' 'd',e _ ?_ ?_⟩<;>(rw[f,qm 'd'];lia)
   .refine e _ ?_ ?_<;>(rw[f,qm 'd'];lia)
end
inductive Ln where
 | cond (a:Opd) (s:Str) (b:Opd) | sum (x:Str) (a:Opd) (s:Str) (b:Opd) | rnd (n:Int) | prt (n:Int) | lve (n:Int) | agn (n:Int) | els | don | fin
abbrev LG:=List Ln
def Ln.d:Ln->D
 | .cond a s b=> .tup [.str "if",a.d,.str s,b.d]
 | .sum x a s b=> .tup [.str "sum",.str x,a.d,.str s,b.d]
 | .rnd n=> .tup [.str "round",.int n]
 | .prt n=> .tup [.str "part",.int n]
 | .lve n=> .tup [.str "leave",.int n]
 | .agn n=> .tup [.str "again",.int n]
 | .els=> .tup [.str "else"]
 | .don=> .tup [.str "done"]
 | .fin=> .tup [.str "end"]
def Ln.beg:Ln->Bool
 | .cond _ _ _ | .rnd _ | .prt _=>true
 | _=>false
def Ln.pl:Ln->Bool
 | .els | .don=>false
 | _=>true
inductive Tp where
 | cif | cel | crd | cpt
def Tp.s:Tp->Str
 | .cif=>"if" | .cel=>"else" | .crd=>"round" | .cpt=>"part"
def seD(x:Tp×Int):D:= .tup [.str x.1.s,.int x.2]
def stp:List Tp->Ln->Option (List Tp)
 | a,.cond _ _ _=>some (.cif::a)
 | a,.rnd _=>some (.crd::a)
 | a,.prt _=>some (.cpt::a)
 | .cif::a,.els=>some (.cel::a)
 | _,.els=>none
 | _::a,.don=>some a
 | [],.don=>none
 | a,_=>some a
def run:List Tp->LG->Option (List Tp)
 | a,[]=>some a
 | a,l::b=>(stp a l).bind fun t=>run t b
def Zj6(ls a:LG)(st:List Tp):run st (ls++a)=(run st ls).bind fun t=>run t a:=by
 induction ls generalizing st with
 | nil=>rfl
 | cons l ls b=>
  show(stp st l).bind _=((stp st l).bind _).bind _
  cases stp st l with
  | none=>rfl
  | some t=>show b t
def tps(a:List (Tp×Int)):List Tp:=(a.map (·.1)).reverse
def Wx(a:List (Tp×Int))(x:Tp×Int):tps (a++[x])=x.1::tps a:=by unfold tps;simp
def six:LS:=["+","-","/","rest","&","^"]
def two:LS:=["<","="]
def hm(f k:Nat):Int:=(((f+97 * k) % 10000:Nat):Int)
def Ln.ok(f k:Nat)(c:List (Tp×Int)):Ln->Prop
 | .cond a s b=>a.ok/\s∈two/\b.ok
 | .sum x a s b=>Nam x/\a.ok/\s∈six/\b.ok
 | .rnd n=>n=hm f k
 | .prt n=>n=hm f k
 | .lve n=>∃t,(t,n)∈c/\0<=n
 | .agn n=>(Tp.crd,n)∈c
 | _=>True
def nxt(b:List (Tp×Int)):Ln->List (Tp×Int)->Prop
 | .cond _ _ _,a=>a=b++[(.cif,-1)]
 | .rnd n,a=>a=b++[(.crd,n)]
 | .prt n,a=>a=b++[(.cpt,n)]
 | .els,a=>∃c n,b=c++[(.cif,n)]/\a=c++[(.cel,-1)]
 | .don,a=>∃x,b=a++[x]
 | _,a=>a=b
def Ya2{d c:List (Tp×Int)}{l:Ln}(h:nxt d l c):stp (tps d) l=some (tps c):=by
 cases l with
 | cond a s b=>rw[show c=_ from h,Wx];rfl
 | rnd n=>rw[show c=_ from h,Wx];rfl
 | prt n=>rw[show c=_ from h,Wx];rfl
 | els=>let⟨e,n,rfl,rfl⟩:=h;rw[Wx,Wx];rfl
 | don=>let⟨x,rfl⟩:=h;rw[Wx];rfl
 | _=>rw[show c=_ from h];rfl
def Dr(f:Nat):Nat->List (Tp×Int)->LG->List (Tp×Int)->Prop
 | _,b,[],a=>a=b
 | k,b,l::d,a=>l.ok f k b/\∃c,nxt b l c/\c.length<=60/\Dr f (k+1) c d a
def Dr.snoc{f:Nat}:∀{ls:LG} {k:Nat} {g e d:List (Tp×Int)} {l:Ln},Dr f k g ls e->l.ok f (k+ls.length) e->nxt e l d->d.length<=60->Dr f k g (ls++[l]) d
 | [],k,g,e,d,l,h,n,j,i=>by cases h;show⟨n,d,j,i,rfl⟩
 | m::ls,k,g,e,d,l,zy8,n,j,i=>by
  let⟨a,t,b,o,c⟩:=zy8
  show⟨a,t,b,o,Dr.snoc c (by rw[show k+1+ls.length=k+(m::ls).length by rw[Ar];lia];show n) j i⟩
def Xv(a:List Int):Nat:=([mixI a 911 / 8 % 10000,0,9999].getD (mixI a 911 % 3).toNat 0).toNat
def Ye:DSp:=fun a M Q _=>∃l:Ln,a=[l.d]/\Q (.bl l.beg) M
def isDd:Ln->Bool
 | .cond _ _ _ | .sum _ _ _ _=>true
 | _=>false
def Vt:DSp:=fun e M Q _=>∃(a k r v:Nat),e=[.ref a,.int k,.ref r,.int v]/\Scr M a/\Nms M r/\∀(l:Ln) b,(∀f k c,l.ok f k c)->isDd l=true->(l.beg=true->v % 24<4)->Kp M b->Q l.d b
def Ra:DSp:=fun c M Q _=>∃(r v:Nat) (a:List (Tp×Int)),c=[.ref r,.int v]/\Z7 M r=some (a.map seD)/\a.length<=1000/\∀b,Kp M b->Q .non b/\∀l:Ln,(∀f k,l.ok f k a)->l.pl=true->l.beg=false->Q l.d b
def Sl:DSp:=fun d M Q _=>∃(a:Nat) (b:List Int),d=[.ref a]/\Z7 M a=some (b.map .int)/\b.length<=63/\∀c,Kp M c->Q (.int (Xv b)) c
def Vm:DSp:=fun e M Q _=>∃(r v:Nat) (b:List (Tp×Int)) (x:Tp×Int),e=[.ref r,.int v]/\Z4 M r=some ((b++[x]).map seD)/\b.length<=1000/\
 ∀(l:Ln) (a:List (Tp×Int)) c,(∀f k b,l.ok f k b)->nxt (b++[x]) l a->a.length<=b.length+1->Ks (·=r) M c->Z4 c r=some (a.map seD)->Q l.d c
def Z28:DSp:=fun h M Q _=>∃(a k f r:Nat) (c:List (Tp×Int)) (e:List Int),h=[.ref a,.int k,.ref f,.ref r]/\Z7 M a=some (e.map .int)/\e.length<=63/\Nms M f/\a≠r/\f≠r/\k<=100/\Z4 M r=some (c.map seD)/\c.length<=60/\
 ∀(l:Ln) (b:List (Tp×Int)) g,l.ok (Xv e) k c->nxt c l b->b.length<=60->Ks (·=r) M g->Z4 g r=some (b.map seD)->Q l.d g
def Q6{m n:Nat}(b:Z7 M m=some xs)(a:Z7 M n=some [])(q:B xs.isEmpty):eqD M (.ref m) (.ref n) B:= .inr (.inr (.inl ⟨m,n,xs,rfl,rfl,b,a,q⟩))
section
variable{K:Ab}
def Zk9{Γ G}:Rd K Γ G Ye Fb Ca:=by
 rintro ds M Q Z ⟨l,rfl,q⟩
 delta Fb Ca
 cases l<;>simp only[Ln.d]<;>rfl' <;>show q
def Yj9{Γ G}(g:Γ[28]?=some Tw):Rd K Γ G Vt Zf8 Zr7:=by
 rintro ds M Q Z ⟨a,k,r,v,rfl,p,i,q⟩
 let⟨I,D,h,B⟩:=id i
 delta Zf8 Zr7
 rfl'
 have o:∀c m:Int,0<m->∃n:Nat,qdiv (qmod c m) 8=n:=by
  intro c m C
  rw[qm C,qd 'd']
  show⟨(c % m / 8).toNat,by have:=Int.ediv_nonneg (nw c (show m≠0 by lia)) (show(0:Int)<=8 by decide);lia⟩
 let⟨y,H⟩:=o (v * 16807) 2147483563 'd'
 let⟨w,F⟩:=o (v * 39373) 2147483543 'd'
 simp only[g]
 refine⟨mulR 'd' 'd',Zi 'd' 'd',a,k,r,y,by rw[H],p,i,fun l u=>?_⟩
 refine⟨mulR 'd' 'd',Zi 'd' 'd',a,k+1,r,w,by rw[F];rfl,p,i,fun j t=>?_⟩
 split
 .rename_i E
  refine⟨Z0 'd',Zi 'd' 'd',ix_m (Zj _ _ []) rfl 'd' fun d b=>?_⟩
  have:∃s:Str,d= .str s/\s∈two:=by
   simp only[An,Df,or_false] at b
   rcases b with rfl | rfl<;>show⟨_,rfl,'k'⟩
  let⟨s,rfl,f⟩:=this
  show⟨Z0 'd',q (.cond l s j) _ (fun _ _ _=>⟨u,f,t⟩) rfl (fun _=>by rw[qm 'd'] at E;lia) (Ks.new _ _)⟩
 .delta Fo
  rfl'
  refine⟨Z0 'd',Zi 'd' 'd',ix_m (Zj _ _ []) rfl 'd' fun d b=>?_⟩
  have:∃s:Str,d= .str s/\s∈six:=by
   simp only[An,Df,or_false] at b
   rcases b with rfl | rfl | rfl | rfl | rfl | rfl<;>show⟨_,rfl,'k'⟩
  let⟨s,rfl,e⟩:=this
  refine⟨Zi 'd' 'd',ix_m (Ze B) (by rw[Af,D];rfl) (by rw[Af];lia) fun d b=>?_⟩
  let⟨x,A,rfl⟩:=Hy.mp b
  show⟨Z0 'd',q (.sum x l s j) _ (fun _ _ _=>⟨h x A,u,e,t⟩) rfl (fun z=>by cases z) (Ks.new _ _)⟩
end
section
variable{K:Ab}
def Zz4{Γ G}(g:Γ[23]?=some Gs):Rd K Γ G Sl Z13 Z52:=by
 rintro ds M Q Z ⟨a,b,rfl,f,l,q⟩
 delta Z13 Z52
 rfl'
 simp only[g]
 refine⟨a,911,rfl,⟨b,f,l⟩,'d',fun v n d=>?_⟩
 have d:=d b f
 rfl'
 rw[qd 'd',qm 'd',qm 'd',d]
 have c:=q (M++[.lst [.int (mixI b 911 / 8 % 10000),.int 0,.int 9999]]) (Ks.new _ _)
 unfold Xv at c
 have m:0<=mixI b 911:='o'
 have j:=nw (mixI b 911) (show(3:Int)≠0 by decide)
 have i:=nv (mixI b 911) (show(0:Int)<3 by decide)
 have h:0<=mixI b 911 / 8 % 10000:=nw _ 'd'
 generalize mixI b 911 / 8 % 10000=x at c h ⊢
 refine⟨Zi 'd' 'd',Z0 'd',?_⟩
 generalize mixI b 911 % 3=y at c j i ⊢
 obtain rfl | rfl | rfl:y=0\/y=1\/y=2:='o'
 .refine ix_l (k:=0) (Zj _ _ []) rfl ?_
  have e:((([x,0,9999].getD (0:Int).toNat 0).toNat:Nat):Int)=x:=by show((x.toNat:Nat):Int)=x;lia
  rw[e] at c
  show c
 .exact ix_l (k:=1) (Zj _ _ []) rfl c
 .exact ix_l (k:=2) (Zj _ _ []) rfl c
def Yq6{a:List (Tp×Int)}{i:Nat}{d:D}(h:(a.map seD)[i]?=some d):∃x:Tp×Int,x∈a/\d=seD x:=by
 rw[Ao] at h
 cases e:a[i]? with
 | none=>rw[e] at h;cases h
 | some x=>rw[e] at h;cases h;show⟨x,Ax e,rfl⟩
def Yl2{t:Tp}(h:t.s="round"):t= .crd:=by
 cases t with
 | crd=>rfl
 | _=>show absurd h 'k'
def Yh5{Γ G}:Rd K Γ G Ra Zj2 Zp3:=by
 rintro ds M Q Z ⟨r,v,y,rfl,P,hl,q⟩
 have h:∀(j:Z2) (V:DT) (p:Tp×Int->Bool) (F:Z2->Prop),Z7 j r=some (y.map seD)->(∀u (x:Tp×Int) (B:Bool->Z2->Prop),B (p x) u->V [some (seD x)] u B)->
   (∀(a:List Int) b,Kp j b->Z4 b j.length=some (a.map .int)->a.length<=1000->(∀n∈a,∃x∈y,p x=true/\x.2=n)->F b)->Np (.lst r) (y.map seD) [0] V (te ⟨K,Γ,G⟩ noX (.ix (.var 0) (.int 1))) j.length (y.map seD) [none] (j++[.lst []]) F:=by
  intro j V p F h0 R f
  refine Ju (fun i L b=>∃(d:Option D) (a:List Int),L=[d]/\Kp j b/\Z4 b j.length=some (a.map .int)/\a.length<=i/\∀n∈a,∃x∈y,p x=true/\x.2=n) ⟨none,[],rfl,Ks.new _ _,Za _ _ [],nc _,fun n g=>by cases g⟩ ?_ ?_ ?_
  .rintro i L b _ ⟨d,a,rfl,k,e,l⟩
   show k.pL h0
  .rintro i d L b C w ⟨d0,a,rfl,k,e,l,N⟩ hC
   let⟨x,O,rfl⟩:=Yq6 w
   rw[tg_one]
   refine R _ _ _ ?_
   cases hb:p x with
   | false=>show hC _ _ ⟨_,a,rfl,k,e,'o',N⟩
   | true=>
    have H:=(Ac.mp w).1
    rw[Af] at H
    rw[nh rfl]
    simp only[seD]
    rfl'
    refine⟨_,e,Z3 (by rw[Af];lia),hC _ _ ⟨_,a++[x.2],rfl,k.set (.inr (nc _)),?_,by rw[Ae,Ak];lia,fun n g=>?_⟩⟩
    .rw[Zh (Zd (Z1 e)),Aw]
     rfl
    .rcases Az.mp g with g | g
     .exact N n g
     .rw[Am] at g
      show⟨x,O,hb,g.symm⟩
  .rintro L b ⟨d,a,rfl,k,e,l,N⟩
   rw[Af] at l
   show f a b k e 'o' N
 delta Zj2 Zp3
 rfl'
 refine⟨_,P,h M _ (fun x=>decide (0<=x.2)) _ P ?_ fun a u Y e1 l1 m1=>?_⟩
 .intro u x B S
  simp only[seD]
  rfl'
  show S
 rfl'
 have E:=Y.pL P
 refine⟨_,E,h u _ (fun x=>decide (x.1.s="round")) _ E ?_ fun W M2 X U l2 m2=>?_⟩
 .intro u x B S
  simp only[seD]
  rfl'
  show S
 have A:Kp M M2:=Y.trans X
 have I:=X.pW e1
 have f:∀J,Kp M J->Z4 J M.length=some (a.map .int)->tss ⟨K,Γ,G⟩ noX Qu {nx:=fun _ M=>Q .non M,rt:=Q} [↑r,some (.int v),↑M.length,↑u.length] J:=by
  intro J k3 T
  delta Qu
  rfl'
  refine⟨Z0 'd',Q6 (Ze (Z1 T)) (Zj _ _ []) ?_⟩
  rfl'
  have z:Kp M (J++[.lst []]):=k3.app _
  cases a with
  | nil=>show(q _ z).1
  | cons n a=>
   simp only[Gx,De,List.isEmpty_cons]
   rfl'
   refine⟨Zi 'd' 'd',Zg (Ze (Z1 T)) ?_⟩
   rfl'
   refine⟨by simp only[Af,Ar];lia,ix_m (Ze (Z1 T)) (by simp) (Nat.succ_pos _) fun d w=>?_⟩
   let⟨i,H,rfl⟩:=Hy.mp w
   let⟨x,o,m,c⟩:=m1 i H
   show⟨Z0 'd',(q _ z).2 (.lve i) (fun _ _=>⟨x.1,by rw[<-c];show o,by rw[<-c];show of_decide_eq_true m⟩) rfl rfl⟩
 rfl'
 split
 .refine⟨Z0 'd',Q6 (Ze (Z1 U)) (Zj _ _ []) ?_⟩
  have z:Kp M (M2++[.lst []]):=A.app _
  cases W with
  | nil=>show f _ z (Z8 I)
  | cons n W=>
   simp only[De,List.isEmpty_cons]
   rfl'
   refine⟨Zi 'd' 'd',Zg (Ze (Z1 U)) ?_⟩
   rfl'
   refine⟨by simp only[Af,Ar];lia,ix_m (Ze (Z1 U)) (by simp) (Nat.succ_pos _) fun d w=>?_⟩
   let⟨i,H,rfl⟩:=Hy.mp w
   let⟨⟨t,x⟩,o,m,c⟩:=m2 i H
   have ht:t= .crd:=Yl2 (of_decide_eq_true m)
   subst ht
   show⟨Z0 'd',(q _ z).2 (.agn i) (fun _ _=>by rw[<-c];show o) rfl rfl⟩
 .exact f _ A I
def Zw3{Γ G}:Rd K Γ G Vm Z24 Z55:=by
 rintro ds M Q Z ⟨r,v,a,x,rfl,d,i,q⟩
 have f:=Zd (Z1 d)
 delta Z24 Z55
 rfl'
 have g:((a++[x]).map seD)[((a++[x]).map seD).length - 1]?=some (seD x):=by
  rw[Aw,Ae]
  simp
 refine⟨Z5 (Z1 d),_,_,d,g,?_⟩
 have h:((a++[x]).map seD).dropLast=a.map seD:=by rw[Aw];simp
 rw[h]
 have c:Z4 (M.set r (.lst (a.map seD))) r=some (a.map seD):=Zh f
 have e:Ks (·=r) M (M.set r (.lst (a.map seD))):=(Ks.refl M).set (.inl rfl)
 have b:tss ⟨K,Γ,G⟩ noX Sd {nx:=fun _ M=>Q .non M,rt:=Q} [↑r,some (.int v),some (seD x)] (M.set r (.lst (a.map seD))):=by
  delta Sd
  rfl'
  show⟨Z0 'd',q .don a _ (fun _ _ _=>trivial) ⟨x,rfl⟩ 'o' e c⟩
 let⟨t,n⟩:=x
 cases t with
 | cif=>
  simp only[seD,Tp.s]
  rfl'
  refine⟨Zi 'd' 'd',?_⟩
  split
  .refine⟨Z5 (Z1 c),Z0 'd',_,c,Z3 (by rw[Af];lia),Z0 'd',q .els (a++[(.cel,-1)]) _ (fun _ _ _=>trivial) ⟨a,n,rfl,rfl⟩ (by simp) (e.set (.inl rfl)) ?_⟩
   rw[Zh (Zd (Z1 c)),Aw]
   rfl
  .exact b
 | _=>
  simp only[seD,Tp.s]
  rfl'
  show b
end
section
variable{K:Ab}{Γ:List DSp}{G:LD}{a k nm r v w:Nat}{ss:List (Tp×Int)}{ns:List Int}{M0:Z2}{Q:DK}
def Yc1{b:Type}(xs:List b)(x:b):atI (xs++[x]) (-1)=some x:=by
 unfold atI ixN
 rw[ng 'd',nh (by rw[Ae,Ak];lia)]
 show(xs++[x])[_]?=some x
 rw[show(-1+((xs++[x]).length:Int)).toNat=xs.length by rw[Ae,Ak];lia]
 simp
def Sw(ns:List Int)(k r:Nat)(ss:List (Tp×Int))(M0:Z2)(Q:DK):Prop:=∀(l:Ln) (b:List (Tp×Int)) c,l.ok (Xv ns) k ss->nxt ss l b->b.length<=60->Ks (·=r) M0 c->Z4 c r=some (b.map seD)->Q l.d c
structure Sa(ns:List Int)(a nm r:Nat)(ss:List (Tp×Int))(M0 M:Z2):Prop where
 k:Kp M0 M
 s:Z7 M a=some (ns.map .int)
 ln:ns.length<=63
 n:Nms M nm
 e:Z4 M r=some (ss.map seD)
 l:ss.length<=60
def Sa.mv(h:Sa ns a nm r ss M0 M)(k:Kp M M'):Sa ns a nm r ss M0 M':=⟨h.k.trans k,k.pL h.s,h.ln,h.n.ks k fun z=>z,k.pW h.e,h.l⟩
abbrev Se6(a k nm r v w:Nat)(d:D):DEnv:=[↑a,some (.int k),↑nm,↑r,some (.int v),some (.int w),some d]
def Zg2{l:Ln}(h:isDd l=true):l.pl=true:=by cases l<;>first | rfl | cases h
def st_2(g:Γ[29]?=some Ye){l:Ln}(o:l.pl=true)(f:l.ok (Xv ns) k ss)(h:l.beg=true->ss.length<60)(S:Sa ns a nm r ss M0 M)(q:Sw ns k r ss M0 Q):tss ⟨K,Γ,G⟩ noX Pg {nx:=fun _ M=>Q .non M,rt:=Q} (Se6 a k nm r v w l.d) M:=by
 have p:Ks (·=r) M0 M:=S.k.mono fun _ _ z=>z.elim
 have b:∀(j:Z2) (l:Ln) (x:Tp×Int),Kp M j->l.ok (Xv ns) k ss->ss.length<60->nxt ss l (ss++[x])->tss ⟨K,Γ,G⟩ noX W9 {nx:=fun _ M=>Q .non M,rt:=Q} (Se6 a k nm r v w l.d) (j.set r (.lst (ss.map seD++[seD x]))):=by
  intro j l x m i A t
  delta W9
  rfl'
  refine q l (ss++[x]) _ i t (by rw[Ae,Ak];lia) ((S.k.trans m).mono (fun _ _ z=>z.elim) |>.set (.inl rfl)) ?_
  rw[Zh (Zd (Z1 (m.pW S.e))),Aw]
  rfl
 have c:nxt ss l ss->tss ⟨K,Γ,G⟩ noX W9 {nx:=fun _ M=>Q .non M,rt:=Q} (Se6 a k nm r v w l.d) M:=by
  intro i
  delta W9
  rfl'
  show q l ss _ f i S.l p S.e
 delta Pg
 rfl'
 simp only[g]
 refine⟨l,rfl,?_⟩
 rfl'
 have u:=S.l
 cases l with
 | cond x s y=>
  simp only[Ln.beg,Ln.d]
  rfl'
  refine⟨Z5 (Z1 S.e),Z0 'd',?_⟩
  refine ix_l (k:=1) (xs:=[x.d,.int (-1)]) (Zj _ _ []) rfl ⟨Z0 'd',_,Z8 S.e,Z3 (by rw[Af];lia),?_⟩
  show b (M++[.lst [x.d,.int (-1)]]) (.cond x s y) (.cif,-1) (Ks.new _ _) f (h rfl) rfl
 | rnd n=>
  simp only[Ln.beg,Ln.d]
  rfl'
  refine⟨Z5 (Z1 S.e),Z0 'd',?_⟩
  refine ix_l (k:=0) (xs:=[.int n,.int (-1)]) (Zj _ _ []) rfl ⟨Z0 'd',_,Z8 S.e,Z3 (by rw[Af];lia),?_⟩
  show b (M++[.lst [.int n,.int (-1)]]) (.rnd n) (.crd,n) (Ks.new _ _) f (h rfl) rfl
 | prt n=>
  simp only[Ln.beg,Ln.d]
  rfl'
  refine⟨Z5 (Z1 S.e),Z0 'd',?_⟩
  refine ix_l (k:=0) (xs:=[.int n,.int (-1)]) (Zj _ _ []) rfl ⟨Z0 'd',_,Z8 S.e,Z3 (by rw[Af];lia),?_⟩
  show b (M++[.lst [.int n,.int (-1)]]) (.prt n) (.cpt,n) (Ks.new _ _) f (h rfl) rfl
 | els=>cases o
 | don=>cases o
 | _=>show c rfl
def Lo(ns:List Int)(k:Nat)(ss:List (Tp×Int))(d:D):Prop:=d= .non\/∃l:Ln,l.pl=true/\l.ok (Xv ns) k ss/\(l.beg=true->ss.length<60)/\d=l.d
def st_3(g:Γ[29]?=some Ye)(m:Γ[30]?=some Vt){d:D}(e:Lo ns k ss d)(S:Sa ns a nm r ss M0 M)(q:Sw ns k r ss M0 Q):tss ⟨K,Γ,G⟩ noX Vq {nx:=fun _ M=>Q .non M,rt:=Q} (Se6 a k nm r v w d) M:=by
 delta Vq
 rcases e with rfl | ⟨l,c,ho,f,rfl⟩
 .rfl'
  simp only[m]
  obtain⟨u,j,i⟩:∃u:Nat,qdiv (v:Int) 24 * 24+18=u/\u % 24=18:=by
   rw[qd 'd']
   show⟨((v:Int) / 24 * 24+18).toNat,'o','o'⟩
  refine⟨Zi 'd' 'd',mulR 'd' 'd',a,k,nm,u,by rw[j],⟨ns,S.s,S.ln⟩,S.n,fun l o c e f h=>?_⟩
  rfl'
  show st_2 g (Zg2 e) (c _ _ _) (fun z=>absurd (f z) 'o') (S.mv h) q
 .have b:=st_2 (K:=K) (G:=G) (k:=k) (v:=v) (w:=w) g c ho f S q
  cases l<;>simp only[Ln.d] at b ⊢ <;>rfl' <;>show b
def st_4(g:Γ[29]?=some Ye)(h:Γ[30]?=some Vt){d:D}(b:Lo ns k ss d)(S:Sa ns a nm r ss M0 M)(q:Sw ns k r ss M0 Q):tss ⟨K,Γ,G⟩ noX Wl {nx:=fun _ M=>Q .non M,rt:=Q} (Se6 a k nm r v w d) M:=by
 have nx:∀{d:D} {M:Z2},Lo ns k ss d->Sa ns a nm r ss M0 M->tss ⟨K,Γ,G⟩ noX Vq {nx:=fun _ M=>Q .non M,rt:=Q} (Se6 a k nm r v w d) M:=fun b S=>st_3 g h b S q
 delta Wl
 rfl'
 split
 .refine⟨Z0 'd',Q6 (Ze (Z1 S.e)) (Zj _ _ []) ?_⟩
  have c:Sa ns a nm r ss M0 (M++[.lst []]):=S.mv (Ks.new _ _)
  rcases Io ss with rfl | ⟨tl,x,rfl⟩
  .exact nx b c
  .have i:((tl.concat x).map seD).isEmpty=false:=by simp
   rw[i,nh rfl]
   refine Tf (Z1 c.e) (show atI ((tl.concat x).map seD) (-1)=some (seD x) by rw[Ip,Aw];show Yc1 _ _) ?_
   simp only[seD]
   rfl'
   refine⟨Z0 'd',.inl ⟨_,Zj _ _ [],rfl,rfl,?_⟩⟩
   have f:=c.mv (Ks.new (M++[.lst []]) [.lst [.str "if",.str "else"]])
   dsimp only
   split
   .exact⟨Z0 'd',nx (d:=(Ln.fin).d) (.inr ⟨.fin,rfl,trivial,(fun z=>by cases z),rfl⟩) f⟩
   .exact nx b f
 .exact nx b S
def st_5(g:Γ[29]?=some Ye)(o:Γ[30]?=some Vt)(n:Γ[31]?=some Ra){d:D}(b:Lo ns k ss d)(S:Sa ns a nm r ss M0 M)(q:Sw ns k r ss M0 Q):tss ⟨K,Γ,G⟩ noX Wc {nx:=fun _ M=>Q .non M,rt:=Q} (Se6 a k nm r v w d) M:=by
 have nx:∀{d:D} {M:Z2},Lo ns k ss d->Sa ns a nm r ss M0 M->tss ⟨K,Γ,G⟩ noX Wl {nx:=fun _ M=>Q .non M,rt:=Q} (Se6 a k nm r v w d) M:=fun b S=>st_4 g o b S q
 delta Wc
 rfl'
 simp only[n]
 have s:=S.l
 have m:Ra [.ref r,.int v] M (fun p f=>tss ⟨K,Γ,G⟩ noX Wl {nx:=fun _ M=>Q .non M,rt:=Q} (Se6 a k nm r v w p) f) noX:=
  ⟨r,v,ss,rfl,Z1 S.e,'o',fun f c=>⟨nx (.inl rfl) (S.mv c),fun l h i j=>nx (.inr ⟨l,i,h _ _,(fun z=>by rw[j] at z;cases z),rfl⟩) (S.mv c)⟩⟩
 split
 .split
  .exact m
  .exact nx b S
 .exact nx b S
def st_6(g:Γ[29]?=some Ye)(s:Γ[30]?=some Vt)(p:Γ[31]?=some Ra)(t:Γ[33]?=some Vm){d:D}(c:Lo ns k ss d)(S:Sa ns a nm r ss M0 M)(q:Sw ns k r ss M0 Q):tss ⟨K,Γ,G⟩ noX Wg {nx:=fun _ M=>Q .non M,rt:=Q} (Se6 a k nm r v w d) M:=by
 have nx:∀{d:D} {M:Z2},Lo ns k ss d->Sa ns a nm r ss M0 M->tss ⟨K,Γ,G⟩ noX Wc {nx:=fun _ M=>Q .non M,rt:=Q} (Se6 a k nm r v w d) M:=fun c S=>st_5 g s p c S q
 delta Wg
 rfl'
 simp only[t]
 have i:=S.l
 have y:sizeLine >= 0/\eqD (M++[.lst []]) (.ref r) (.ref M.length) fun b=>if b=false then Vm [.ref r,.int v] (M++[.lst []]) Q noX else tss ⟨K,Γ,G⟩ noX Wc {nx:=fun _ M=>Q .non M,rt:=Q} (Se6 a k nm r v w d) (M++[.lst []]):=by
  refine⟨nl _,Q6 (Ze (Z1 S.e)) (Zj _ _ []) ?_⟩
  have f:Sa ns a nm r ss M0 (M++[.lst []]):=S.mv (Ks.new _ _)
  rcases Io ss with rfl | ⟨tl,x,rfl⟩
  .exact nx c f
  .have u:((tl.concat x).map seD).isEmpty=false:=by simp
   rw[u,nh rfl]
   rw[Ip] at f q i
   refine⟨r,v,tl,x,rfl,f.e,by rw[Ae] at i;lia,fun l h A o n B m j=>q l h A (o _ _ _) n (by rw[Ae,Ak] at i;lia) ?_ j⟩
   show(f.k.mono fun _ _ z=>z.elim).trans m
 split
 .split
  .exact y
  .exact nx c S
 .exact nx c S
def st_7(g:Γ[29]?=some Ye)(B:Γ[30]?=some Vt)(z:Γ[31]?=some Ra)(C:Γ[33]?=some Vm)(A:Γ[32]?=some Sl){d:D}(b:Lo ns k ss d)(S:Sa ns a nm r ss M0 M)(q:Sw ns k r ss M0 Q):tss ⟨K,Γ,G⟩ noX Ta {nx:=fun _ M=>Q .non M,rt:=Q} (Se6 a k nm r v w d) M:=by
 have nx:∀{d:D} {M:Z2},Lo ns k ss d->Sa ns a nm r ss M0 M->tss ⟨K,Γ,G⟩ noX Wg {nx:=fun _ M=>Q .non M,rt:=Q} (Se6 a k nm r v w d) M:=fun b S=>st_6 g B z C b S q
 delta Ta
 rfl'
 simp only[A]
 split
 .split
  .refine Zg (Z1 S.e) ?_
   rfl'
   split
   .refine⟨Z0 'd',?_⟩
    have m:=Af (as:=ss) seD
    have f:∀(i:Nat) (c:Int->Ln),(∀n,(c n).pl=true)->(∀n,n=hm (Xv ns) k->(c n).ok (Xv ns) k ss)->(∀n:Int,(c n).d= .tup [[D.str "round",D.str "part"].getD i .non,.int n])->i<2->ixD (M++[.lst [.str "round",.str "part"]]) (.ref M.length) (.int (i:Nat)) fun d=>Sl [.ref a] (M++[.lst [.str "round",.str "part"]]) (fun x j=>IntMulOk 97 (k:Int)/\opD .add x (.int (97 * (k:Int))) j fun x j=>opD .mod x (.int 10000) j fun E j=>2<=sizeLine/\tss ⟨K,Γ,G⟩ noX Wg {nx:=fun _ M=>Q .non M,rt:=Q} [↑a,some (.int k),↑nm,↑r,some (.int v),some (.int w),some (.tup [d,E])] j) noX:=by
     intro i c u y t p
     refine ix_l (k:=i) (d:=[D.str "round",D.str "part"].getD i .non) (Zj _ _ []) ?_ ?_
     .rw[Hb,Ag ↥p]
      rfl
     have l:Sa ns a nm r ss M0 (M++[.lst [.str "round",.str "part"]]):=S.mv (Ks.new _ _)
     refine⟨a,ns,rfl,l.s,l.ln,fun F o=>⟨mulL 'd' 'd',?_⟩⟩
     rfl'
     refine⟨Z0 'd',?_⟩
     rw[<-t]
     show nx (.inr ⟨_,u _,y _ (by unfold hm;rw[qm 'd'];lia),(fun _=>by lia),rfl⟩) (l.mv o)
    split
    .exact f 1 .prt (fun _=>rfl) (fun _ h=>h) (fun _=>rfl) 'd'
    .exact f 0 .rnd (fun _=>rfl) (fun _ h=>h) (fun _=>rfl) 'd'
   .exact nx b S
  .exact nx b S
 .exact nx b S
def Y96(t:Γ[23]?=some Gs)(g:Γ[29]?=some Ye)(n:Γ[30]?=some Vt)(u:Γ[31]?=some Ra)(y:Γ[33]?=some Vm)(x:Γ[32]?=some Sl):Rd K Γ G Z28 Zk1 Zj0:=by
 rintro ds M Q Z ⟨a,k,nm,r,ss,ns,rfl,c,b,j,_,_,A,s,f,q⟩
 have S:Sa ns a nm r ss M M:=⟨Ks.refl M,c,b,j,s,f⟩
 delta Zk1 Zj0
 rfl'
 simp only[t]
 refine⟨a,k,rfl,⟨ns,c,b⟩,'o',fun v z _=>?_⟩
 rfl'
 rw[qm 'd']
 obtain⟨w,p⟩:∃w:Nat,(v:Int) % 24=w:=⟨((v:Int) % 24).toNat,'o'⟩
 rw[p]
 have nx:∀{d:D} {i:Z2},Lo ns k ss d->Sa ns a nm r ss M i->tss ⟨K,Γ,G⟩ noX Ta {nx:=fun _ M=>Q .non M,rt:=Q} (Se6 a k nm r v w d) i:=fun h S=>st_7 g n u y x h S q
 split
 .refine Zg (Z1 S.e) ?_
  rfl'
  split
  .simp only[n]
   have m:=Af (as:=ss) seD
   show⟨a,k,nm,v,rfl,⟨ns,c,b⟩,j,fun l i f h B o=>nx (.inr ⟨l,Zg2 h,f _ _ _,(fun _=>by lia),rfl⟩) (S.mv o)⟩
  .exact nx (.inl rfl) S
 .exact nx (.inl rfl) S
end
def Jo:DSp:=fun g M Q _=>∃(a b:Nat) (e:List Int),g=[.ref a,.int b]/\Z7 M a=some (e.map .int)/\e.length<=63/\b<=60/\∀(c:LG) f r,Dr (Xv e) 0 [] c []->c.length<=120->b<=c.length->Kp M f->Z4 f r=some (c.map Ln.d)->M.length<=r->Q (.ref r) f
section
variable{K:Ab}{Γ:List DSp}{G:LD}
def Y29(gn:Γ[27]?=some Qp)(gs:Γ[34]?=some Z28):Rd K Γ G Jo Br Z74:=by
 rintro ds M Q Z ⟨a,j,A,rfl,H,z,hm,q⟩
 have ha:a<M.length:=Zd H
 delta Br Z74
 rfl'
 simp only[gn]
 refine⟨a,rfl,⟨A,H,z⟩,fun T f F hl y B S=>?_⟩
 rfl'
 refine⟨Z0 'd',Z0 'd','o','o',?_⟩
 rw[Int.toNat_natCast,As]
 have Y:=Zd S
 refine Xm (fun i r h=>∃(d:Option D) (e:LG) (g:List (Tp×Int)),r=[↑a,some (.int j),↑F,↑f.length,some (.ref (f.length+1)),d]/\Kp f h/\Z4 h f.length=some (e.map Ln.d)/\Z4 h (f.length+1)=some (g.map seD)/\Dr (Xv A) 0 [] e g/\e.length=i/\g.length<=60)
  ⟨none,[],[],by simp,Ks.new _ _,Za _ _ _,Yj _ _ 1,rfl,rfl,nl _⟩ ?_ ?_
 .rintro i r h C hi ⟨d,e,g,rfl,k,v,p,s,u,t⟩ hC
  (delta Nl;simp only[Int.zero_add])
  rfl'
  simp only[gs]
  refine⟨Z5 (Z1 v),a,i,F,f.length+1,g,A,rfl,(B.trans k).pL H,z,⟨T,hl,y,k.pL S⟩,by have:=B.len;lia,'o','o',p,t,fun l E M2 h0 h1 R I h4=>?_⟩
  have m:Z4 M2 f.length=some (e.map Ln.d):=I.W 'o' v
  rfl'
  refine⟨_,m,Z3 (by rw[Af];lia),hC _ _ ⟨_,e++[l],E,rfl,?_,?_,?_,?_,by simp;lia,R⟩⟩
  .exact⟨fun b n P=>by
    rw[Db 'o',I.at' b 'o' (ni P k.len)]
    show k.at' b n P,by rw[Dx];show nj k.len I.len⟩
  .rw[Zh (Zd (Z1 m)),Aw]
   rfl
  .rw[Zb 'o']
   show h4
  .exact s.snoc (by rw[u,Nat.zero_add];show h0) h1 R
 .rintro r h ⟨d,e,g,rfl,k,v,p,s,u,t⟩
  delta Ot
  refine U.J7 (c:=⟨K,Γ,G⟩) (X:=noX) (fun r h=>∃(e:LG) (g:List (Tp×Int)),r=[↑a,some (.int j),↑F,↑f.length,some (.ref (f.length+1)),d]/\Kp f h/\Z4 h f.length=some (e.map Ln.d)/\Z4 h (f.length+1)=some (g.map seD)/\Dr (Xv A) 0 [] e g/\e.length+g.length<=120/\j<=e.length/\g.length<=60) (fun r h=>((Z4 h (f.length+1)).getD []).length) ⟨e,g,rfl,k,v,p,s,'o','o',t⟩ ?_
  rintro r h ⟨e,g,rfl,k,v,p,s,u,V,t⟩
  rfl'
  refine⟨Z0 'd',Q6 (Ze (Z1 p)) (Zj _ _ []) ?_⟩
  rfl'
  have O:Kp f (h++[.lst []]):=k.app _
  have m:=Z8 (N:=[.lst []]) v
  have o:=Z8 (N:=[.lst []]) p
  rcases Io g with rfl | ⟨tl,x,rfl⟩
  .simp only[N0,Iu,List.isEmpty_nil]
   rfl'
   show q e _ _ s (by simp at u;lia) V (B.trans O) m B.len
  .rw[Ip] at o s u t p ⊢
   have J:((tl++[x]).map seD).isEmpty=false:=by simp
   rw[J]
   delta Nm
   rfl'
   have el:((tl++[x]).map seD)[((tl++[x]).map seD).length - 1]?=some (seD x):=by rw[Aw,Ae];simp
   have dl:((tl++[x]).map seD).dropLast=tl.map seD:=by rw[Aw];simp
   have w:=Zd (Z1 o)
   refine⟨Z5 (Z1 o),_,_,o,el,?_⟩
   rw[dl]
   have L:Z4 (He (h++[Cell.lst []]) (f.length+1) (Cell.lst (tl.map seD))) f.length=some (e.map Ln.d):=by rw[Zb 'o'];show m
   simp only[Ae,Ak] at u t
   refine⟨Z5 (Z1 L),Z0 'd',_,L,Z3 (by rw[Af];lia),⟨e++[.don],tl,(O.set (.inr 'o')).set (.inr (nc _)),?_,?_,?_,by simp;lia,by simp;lia,'o'⟩,?_⟩
   .rw[Zh (Zd (Z1 L)),Aw]
    rfl
   .rw[Zb 'o']
    show Zh w
   .exact s.snoc trivial ⟨x,rfl⟩ 'o'
   .rw[Zb 'o',Zh w,p]
    simp
end
inductive T where
 | leaf (l:Ln) | home (r:Bool) (n:Int) (b:List T) | cho (a:Opd) (s:Str) (b:Opd) (y n:List T)
structure Fr where
 h:Option Ln
 y:Option (List T)
 n:List T
def Fr.mk'(f:Fr):T:=match f.h with
 | some (.rnd k)=> .home true k f.n
 | some (.prt k)=> .home false k f.n
 | some (.cond a s b)=>match f.y with
  | none=> .cho a s b f.n []
  | some y=> .cho a s b y f.n
 | _=> .leaf .fin
def nst(fs:List Fr)(l:Ln):List Fr:=match l with
 | .cond a s b=>⟨some (.cond a s b),none,[]⟩::fs
 | .rnd n=>⟨some (.rnd n),none,[]⟩::fs
 | .prt n=>⟨some (.prt n),none,[]⟩::fs
 | .els=>match fs with
  | f::r=>⟨f.h,some f.n,[]⟩::r
  | []=>[]
 | .don=>match fs with
  | f::g::r=>⟨g.h,g.y,g.n++[f.mk']⟩::r
  | r=>r
 | l=>match fs with
  | f::r=>⟨f.h,f.y,f.n++[.leaf l]⟩::r
  | []=>[]
def fr0:Fr:=⟨none,none,[]⟩
def nest(ls:LG):List T:=match ls.foldl nst [fr0] with
 | [f]=>f.n
 | _=>[]
def Fr.is(f:Fr):Tp->Prop
 | .cif=>f.y=none/\∃a s b,f.h=some (.cond a s b)
 | .cel=>f.y.isSome=true/\∃a s b,f.h=some (.cond a s b)
 | .crd=>f.y=none/\∃n,f.h=some (.rnd n)
 | .cpt=>f.y=none/\∃n,f.h=some (.prt n)
def Fss:List Tp->List Fr->Prop
 | [],a=>∃n,a=[⟨none,none,n⟩]
 | t::b,a=>∃f r,a=f::r/\f.is t/\Fss b r
def Fss.top{ts:List Tp}(h:Fss ts fs):∃f r,fs=f::r/\∀n,Fss ts (⟨f.h,f.y,n⟩::r):=by
 cases ts with
 | nil=>let⟨n,rfl⟩:=h;show⟨_,_,rfl,fun n=>⟨n,rfl⟩⟩
 | cons t ts=>let⟨f,r,rfl,b,a⟩:=h;show⟨f,r,rfl,fun n=>⟨_,_,rfl,by cases t<;>show b,a⟩⟩
def Zi3{ts a:List Tp}(h:stp ts .els=some a):∃r,ts= .cif::r/\a= .cel::r:=by
 match ts,h with
 | .cif::ts,h=>cases h;show⟨ts,rfl,rfl⟩
def B9{ts a:List Tp}(h:stp ts .don=some a):∃t,ts=t::a:=by
 match ts,h with
 | t::ts,h=>cases h;show⟨t,rfl⟩
def Fss.step{fs:List Fr}{ts c:List Tp}{l:Ln}(h:Fss ts fs)(e:stp ts l=some c):Fss c (nst fs l):=by
 cases l with
 | cond a s b=>cases e;show⟨_,_,rfl,⟨rfl,a,s,b,rfl⟩,h⟩
 | rnd n=>cases e;show⟨_,_,rfl,⟨rfl,n,rfl⟩,h⟩
 | prt n=>cases e;show⟨_,_,rfl,⟨rfl,n,rfl⟩,h⟩
 | els=>
  let⟨r,rfl,rfl⟩:=Zi3 e
  let⟨f,k,rfl,j,i⟩:=h
  show⟨_,_,rfl,⟨rfl,j.2⟩,i⟩
 | don=>
  let⟨t,rfl⟩:=B9 e
  let⟨f,k,rfl,j,i⟩:=h
  let⟨g,r,rfl,d⟩:=i.top
  show d _
 | _=>
  cases e
  let⟨g,r,rfl,d⟩:=h.top
  show d _
def Fss.run:∀{fs:List Fr} {ts a:List Tp},Fss ts fs->run ts ls=some a->Fss a (ls.foldl nst fs):=by
 induction ls with
 | nil=>intro fs ts a h e;cases e;show h
 | cons l ls c=>
  intro fs ts a h e
  change (stp ts l).bind _=_ at e
  cases b:stp ts l with
  | none=>rw[b] at e;cases e
  | some t=>rw[b] at e;show c (h.step b) e
def Nq(h:run [] ls=some []):ls.foldl nst [fr0]=[⟨none,none,nest ls⟩]:=by
 let⟨n,a⟩:=Fss.run (fs:=[fr0]) (ts:=[]) ⟨[],rfl⟩ h
 unfold nest
 rw[a]
mutual
noncomputable def fl:T->LG
 | .leaf l=>[l]
 | .home r n b=>(if r then .rnd n else .prt n)::(fls b++[.don])
 | .cho a s b y n=> .cond a s b::(fls y++((match n with | []=>[] | t::c=> .els::(fl t++fls c))++[.don]))
noncomputable def fls:List T->LG
 | []=>[]
 | t::a=>fl t++fls a
end
theorem Wb(xs ys:List T):fls (xs++ys)=fls xs++fls ys:=by
 induction xs with
 | nil=>rw[Ir];unfold fls;rfl
 | cons x xs a=>rw[Hx];change fl x++fls (xs++ys)=(fl x++fls xs)++fls ys;rw[a,As]
def Sk:fls []=[]:=rfl
def Wz(t:T)(ts:List T):fls (t::ts)=fl t++fls ts:=rfl
def Zl6(l:Ln):fl (.leaf l)=[l]:=rfl
def J9(r:Bool)(n:Int)(b:List T):fl (.home r n b)=(if r then .rnd n else .prt n)::(fls b++[.don]):=rfl
def G8(a:Opd)(s:Str)(b:Opd)(y:List T):fl (.cho a s b y [])= .cond a s b::(fls y++[.don]):=rfl
def Cq(a:Opd)(s:Str)(b:Opd)(y:List T)(t:T)(ts:List T):fl (.cho a s b y (t::ts))= .cond a s b::(fls y++(.els::fls (t::ts)++[.don])):=rfl
def notE:Ln->Bool
 | .els=>false
 | _=>true
def noE(ls:LG):LG:=ls.filter notE
mutual
def RT(C:Nat->Prop)(M:Z2):T->D->Prop
 | .leaf l,d=>d=l.d/\l.pl=true/\l.beg=false
 | .home r n b,d=>∃c g,d= .tup [.str (if r then "round" else "part"),.int n,.ref c]/\C c/\Z4 M c=some g/\RTs C M b g
 | .cho a s b y n,d=>∃f e i h,d= .tup [.str "choice",a.d,.str s,b.d,.ref f,.ref e]/\C f/\C e/\Z4 M f=some i/\RTs C M y i/\Z4 M e=some h/\RTs C M n h
def RTs(C:Nat->Prop)(M:Z2):List T->LD->Prop
 | [],a=>a=[]
 | t::b,a=>∃d r,a=d::r/\RT C M t d/\RTs C M b r
end
theorem Y2{a:Nat}(h:M'[a]?=M[a]?):Z4 M' a=Z4 M a:=by unfold Z4;rw[h]
mutual
theorem RT.keep{C p:Nat->Prop}(f:∀c,C c->p c)(k:∀c,C c->M'[c]?=M[c]?):∀{t:T} {d:D},RT C M t d->RT p M' t d
 | .leaf l,d,h=>h
 | .home r n b,d,zy9=>by
  let⟨c,w,e,g,i,j⟩:=zy9
  show⟨c,w,e,f c g,by rw[Y2 (k c g)];show i,RTs.keep f k j⟩
 | .cho a s b y n,d,zy10=>by
  let⟨o,m,z,x,e,g,i,j,v,u,q⟩:=zy10
  show⟨o,m,z,x,e,f o g,f m i,by rw[Y2 (k o g)];show j,RTs.keep f k v,by rw[Y2 (k m i)];show u,RTs.keep f k q⟩
theorem RTs.keep{C b:Nat->Prop}(a:∀c,C c->b c)(k:∀c,C c->M'[c]?=M[c]?):∀{ts:List T} {ds:LD},RTs C M ts ds->RTs b M' ts ds
 | [],ds,h=>h
 | t::ts,ds,zy11=>by
  let⟨d,r,e,g,f⟩:=zy11
  show⟨d,r,e,RT.keep a k g,RTs.keep a k f⟩
end
theorem RTs.len:∀{ts:List T} {ds:LD},RTs C M ts ds->ds.length=ts.length
 | [],ds,h=>by cases h;rfl
 | t::ts,ds,zy12=>by
  let⟨d,r,e,b,a⟩:=zy12
  rw[e,Ar,Ar,RTs.len a]
def RTs.app:∀{ts us:List T} {ds es:LD},RTs C M ts ds->RTs C M us es->RTs C M (ts++us) (ds++es)
 | [],us,ds,es,h,g=>by cases h;show g
 | t::ts,us,ds,es,zy13,g=>by
  let⟨d,r,e,b,a⟩:=zy13
  rw[e];show⟨d,r++es,rfl,b,RTs.app a g⟩
def RTs.one{t:T}{d:D}(h:RT C M t d):RTs C M [t] [d]:=⟨d,[],rfl,h,rfl⟩
structure CF where
 q:Nat
 n:Nat
 h:Option Ln
 y:Option (Nat×List T)
 t:List T
def CF.hd(f:CF):D:=match f.h with
 | none=> .tup [.str "form"]
 | some l=>l.d
def CF.yd(f:CF):D:=match f.y with
 | none=> .non
 | some (c,_)=> .ref c
def CF.abs(f:CF):Fr:=⟨f.h,f.y.map (·.2),f.t⟩
structure CFok(C:Nat->Prop)(M:Z2)(f:CF):Prop where
 q:Z4 M f.q=some [f.hd,f.yd,.ref f.n]
 n:∃ds,Z4 M f.n=some ds/\RTs C M f.t ds
 y:∀c ts,f.y=some (c,ts)->C c/\∃ds,Z4 M c=some ds/\RTs C M ts ds
def CFok.keep{C d:Nat->Prop}{f:CF}(h:CFok C M f)(a:∀c,C c->d c)(k:∀c,C c->M'[c]?=M[c]?)(i:M'[f.q]?=M[f.q]?)(j:M'[f.n]?=M[f.n]?):CFok d M' f:=by
 let⟨p,⟨b,o,m⟩,l⟩:=h
 refine⟨by rw[Y2 i];show p,⟨b,by rw[Y2 j];show o,m.keep a k⟩,fun c g e=>?_⟩
 let⟨g1,b,g2,g3⟩:=l c g e
 show⟨a c g1,b,by rw[Y2 (k c g1)];show g2,g3.keep a k⟩
structure NI(M0:Z2)(p:Nat)(cfs:List CF)(C:Nat->Prop)(M:Z2):Prop where
 k:Kp M0 M
 o:Z4 M p=some (cfs.map fun f=> .ref f.q)
 ok:∀f∈cfs,CFok C M f
 d0:¬C p/\M0.length<=p
 d1:∀f∈cfs,f.q≠p/\f.n≠p/\f.q≠f.n/\¬C f.q/\¬C f.n/\M0.length<=f.q/\M0.length<=f.n
 d2:cfs.Pairwise fun f g=>f.q≠g.q/\f.q≠g.n/\f.n≠g.q/\f.n≠g.n
 cl:∀c,C c->M0.length<=c/\c<M.length
def CFok.lt{C:Nat->Prop}{M:Z2}{f:CF}(h:CFok C M f):f.q<M.length/\f.n<M.length:=by
 let⟨b,a,_⟩:=h.n
 show⟨Zd (Z1 h.q),Zd (Z1 a)⟩
def Yd{M:Z2}{a b:Nat}{c:Cell}(h:a≠b):(M.set a c)[b]?=M[b]?:=Db h
def N3{M N:Z2}{b:Nat}(h:b<M.length):(M++N)[b]?=M[b]?:=Dn h
section
variable{M0 M:Z2}{p:Nat}{cfs init:List CF}{C:Nat->Prop}{f g:CF}
def NI.plt(I:NI M0 p cfs C M):p<M.length:=Zd (Z1 I.o)
def NI.push(I:NI M0 p cfs C M)(l:Ln):NI M0 p (cfs++[⟨M.length+1,M.length,some l,none,[]⟩]) C (He (M++[Cell.lst []]++[Cell.lst [l.d,.non,.ref M.length]]) p (.lst ((cfs.map fun f=> .ref f.q)++[.ref (M.length+1)]))):=by
 have v:=I.plt
 have i:∀b,b≠p->b<M.length->(He (M++[Cell.lst []]++[Cell.lst [l.d,.non,.ref M.length]]) p (.lst ((cfs.map fun f=> .ref f.q)++[.ref (M.length+1)])))[b]?=M[b]?:=fun b r o=>by
  rw[Yd (Au r),As,N3 o]
 have s:∀c,C c->c≠p:=fun c h z=>I.d0.1 (z ▸ h)
 have j:∀c,C c->c<M.length:=fun c h=>(I.cl c h).2
 refine⟨((I.k.app _).app _).set (.inr I.d0.2),?_,?_,I.d0,?_,?_,fun c h=>⟨(I.cl c h).1,?_⟩⟩
 .rw[Zh (by rw[Ae,Ae];lia),Aw]
  rfl
 .intro f a
  rcases Az.mp a with a | a
  .let⟨r,o,_⟩:=I.d1 f a
   have m:=(I.ok f a).lt
   show(I.ok f a).keep (fun _ h=>h) (fun c h=>i c (s c h) (j c h)) (i _ r m.1) (i _ o m.2)
  .cases Am.mp a
   refine⟨?_,⟨[],?_,rfl⟩,fun c u e=>by cases e⟩
   .change Z4 _ (M.length+1)=some [l.d,.non,.ref M.length]
    rw[Zb 'o',As,Yj]
    rfl
   .change Z4 _ M.length=some []
    rw[Zb 'o',As]
    show Za _ _ _
 .intro f a
  rcases Az.mp a with a | a
  .exact I.d1 f a
  .cases Am.mp a
   have:=I.k.len
   show⟨by change M.length+1≠p;lia,by change M.length≠p;lia,by change M.length+1≠M.length;lia,fun h=>by have:=j _ h;simp only at this;lia,fun h=>by have:=j _ h;simp only at this;lia,by change _<=M.length+1;lia,this⟩
 .rw[Ky]
  refine⟨I.d2,Lp _ _,fun f a g t=>?_⟩
  cases Am.mp t
  have m:=(I.ok f a).lt
  show⟨by change f.q≠M.length+1;lia,by change f.q≠M.length;lia,by change f.n≠M.length+1;lia,by change f.n≠M.length;lia⟩
 .have:=j c h
  rw[Dx,Ae,Ae]
  lia
def NI.last(I:NI M0 p (init++[f]) C M):CFok C M f/\(∀g∈init,CFok C M g/\g.q≠f.q/\g.q≠f.n/\g.n≠f.q/\g.n≠f.n)/\f.q≠p/\f.n≠p/\f.q≠f.n/\¬C f.q/\¬C f.n/\M0.length<=f.q/\M0.length<=f.n:=by
 have b:=I.d2
 rw[Ky] at b
 show⟨I.ok f (by simp),fun g a=>⟨I.ok g (by simp[a]),b.2.2 g a f (by simp)⟩,I.d1 f (by simp)⟩
def NI.grow{r:Nat->Prop}{M':Z2}{ds:LD}{t:T}{d:D}(I:NI M0 p (init++[f]) C M)(e:Z4 M f.n=some ds)(H:RTs C M f.t ds)(s:∀c,C c->r c)
  (B:∀c,r c->M0.length<=c/\c<M'.length) (v:¬r p/\∀g∈init++[f],¬r g.q/\¬r g.n) (k:∀b,b<M.length->M'[b]?=M[b]?) (K:M.length<=M'.length) (h:RT r M' t d):NI M0 p (init++[{f with t:=f.t++[t]}]) r (M'.set f.n (.lst (ds++[d]))):=by
 let⟨A,N,a1,F,E,a4,a5,a6,Z⟩:=I.last
 have J:=A.lt
 have L:=I.plt
 have w:¬r f.n:=(v.2 f (by simp)).2
 have j:∀b,b≠f.n->b<M.length->(M'.set f.n (.lst (ds++[d])))[b]?=M[b]?:=fun b P u=>by rw[Yd (Au P),k b u]
 have m:∀c,C c->(M'.set f.n (.lst (ds++[d])))[c]?=M[c]?:=fun c h=>j c (fun z=>w (z ▸ s c h)) (I.cl c h).2
 refine⟨⟨fun b n l=>(j b 'o' (ni l I.k.len)).trans (I.k.at' b n l),?_⟩,?_,?_,⟨v.1,I.d0.2⟩,?_,?_,fun c h=>⟨(B c h).1,by rw[Dx];show(B c h).2⟩⟩
 .rw[Dx]
  show nj I.k.len K
 .rw[Y2 (j p (Au F) L),I.o]
  simp
 .intro g i
  rcases Az.mp i with i | i
  .let⟨g1,g2,g3,g4,g5⟩:=N g i
   have:=g1.lt
   show g1.keep s m (j _ g3 this.1) (j _ g5 this.2)
  .cases Am.mp i
   refine⟨?_,⟨ds++[d],Zh 'o',?_⟩,fun c G e=>?_⟩
   .change Z4 _ f.q=some [f.hd,f.yd,.ref f.n]
    rw[Y2 (j _ E J.1)]
    show A.q
   .exact(H.keep s m).app (.one (h.keep (fun _ h=>h) fun c O=>Yd (a:=f.n) fun z=>w (by rw[z];show O)))
   .let⟨g1,Q,g2,g3⟩:=A.y c G e
    show⟨s c g1,Q,by rw[Y2 (m c g1)];show g2,g3.keep s m⟩
 .intro g i
  rcases Az.mp i with i | i
  .let⟨Y,X,W,_,_,V,U⟩:=I.d1 g (by simp[i])
   let⟨S,R⟩:=v.2 g (by simp[i])
   show⟨Y,X,W,S,R,V,U⟩
  .cases Am.mp i
   show⟨a1,F,E,(v.2 f (by simp)).1,w,a6,Z⟩
 .have u:=I.d2
  rw[Ky] at u ⊢
  refine⟨u.1,Lp _ _,fun g i g' x=>?_⟩
  cases Am.mp x
  show u.2.2 g i f (by simp)
def NI.els(I:NI M0 p (init++[f]) C M):NI M0 p (init++[⟨f.q,M.length,f.h,some (f.n,f.t),[]⟩]) (fun c=>C c\/c=f.n) (He (He M f.q (.lst [f.hd,.ref f.n,.ref f.n])++[Cell.lst []]) f.q (.lst [f.hd,.ref f.n,.ref M.length])):=by
 let⟨v,s,A,R,y,x,U,Q,P⟩:=I.last
 have B:=v.lt
 have D:=I.plt
 have d:∀b,b≠f.q->b<M.length->(He (He M f.q (.lst [f.hd,.ref f.n,.ref f.n])++[Cell.lst []]) f.q (.lst [f.hd,.ref f.n,.ref M.length]))[b]?=M[b]?:=fun b w i=>by
  rw[Yd (Au w),N3 (by rw[Dx];show i),Yd (Au w)]
 have j:∀c,C c->(He (He M f.q (.lst [f.hd,.ref f.n,.ref f.n])++[Cell.lst []]) f.q (.lst [f.hd,.ref f.n,.ref M.length]))[c]?=M[c]?:=fun c h=>d c (fun z=>x (z ▸ h)) (I.cl c h).2
 have m:(He M f.q (.lst [f.hd,.ref f.n,.ref f.n])).length=M.length:=Dx ..
 have r:∀c,C c->c<M.length:=fun c h=>(I.cl c h).2
 refine⟨⟨fun b n l=>(d b 'o' (ni l I.k.len)).trans (I.k.at' b n l),?_⟩,?_,?_,⟨fun h=>h.elim I.d0.1 fun z=>R z.symm,I.d0.2⟩,?_,?_,fun c h=>?_⟩
 .rw[Dx,Ae,m]
  have:=I.k.len
  lia
 .rw[Y2 (d p (Au A) D),I.o]
  simp
 .intro g a
  rcases Az.mp a with a | a
  .let⟨g1,g2,g3,g4,g5⟩:=s g a
   have:=g1.lt
   show g1.keep (fun _ h=> .inl h) j (d _ g2 this.1) (d _ g4 this.2)
  .cases Am.mp a
   refine⟨Zh (by rw[Ae,m];lia),⟨[],?_,rfl⟩,fun c S e=>?_⟩
   .change Z4 _ M.length=some []
    rw[Zb 'o',<-m]
    show Za _ _ _
   .cases e
    let⟨F,i,E⟩:=v.n
    show⟨.inr rfl,F,by rw[Y2 (d _ (Au y) B.2)];show i,E.keep (fun _ h=> .inl h) j⟩
 .intro g a
  rcases Az.mp a with a | a
  .let⟨O,N,L,K,J,H,G⟩:=I.d1 g (by simp[a])
   let⟨g1,g2,g3,g4,g5⟩:=s g a
   show⟨O,N,L,fun h=>h.elim K g3,fun h=>h.elim J g5,H,G⟩
  .cases Am.mp a
   have:=I.k.len
   show⟨A,by change M.length≠p;lia,by change f.q≠M.length;lia,fun h=>h.elim x y,fun h=>h.elim (fun z=>by have:=r _ z;simp only at this;lia) (fun z=>by simp only at z;lia),Q,this⟩
 .have i:=I.d2
  rw[Ky] at i ⊢
  refine⟨i.1,Lp _ _,fun g a T u=>?_⟩
  cases Am.mp u
  let⟨g1,g2,g3,g4,g5⟩:=s g a
  have:=g1.lt
  show⟨g2,by change g.q≠M.length;lia,g4,by change g.n≠M.length;lia⟩
 .rw[Dx,Ae,m]
  rcases h with h | h
  .have:=I.cl c h
   show⟨this.1,'o'⟩
  .rw[h]
   show⟨P,'o'⟩
def NI.pop(I:NI M0 p (init++[f]) C M):NI M0 p init C (M.set p (.lst (init.map fun f=> .ref f.q))):=by
 let⟨m,l,v,u,t,s,r,o,n⟩:=I.last
 have e:=I.plt
 have b:∀c,C c->(M.set p (.lst (init.map fun f=> .ref f.q)))[c]?=M[c]?:=fun c h=>Yd fun z=>I.d0.1 (z ▸ h)
 have d:=I.d2
 rw[Ky] at d
 refine⟨I.k.set (.inr I.d0.2),Zh e,fun g a=>?_,I.d0,fun g a=>I.d1 g (by simp[a]),d.1,fun c h=>by rw[Dx];show I.cl c h⟩
 let⟨j,i,_⟩:=I.d1 g (by simp[a])
 show(I.ok g (by simp[a])).keep (fun _ h=>h) b (Yd (Au j)) (Yd (Au i))
def Cn(C:Nat->Prop)(f:CF)(M N:Z2)(c:Nat):Prop:=C c\/c=f.n\/(M.length<=c/\c<M.length+N.length)
def NI.done(I:NI M0 p ((init++[g])++[f]) C M){t:T}{d:D}(e:Z4 M g.n=some ds)(s:RTs C M g.t ds)
  (h:RT (Cn C f M N) (M.set p (.lst ((init++[g]).map fun f=> .ref f.q))++N) t d):NI M0 p (init++[{g with t:=g.t++[t]}]) (Cn C f M N) (He (M.set p (.lst ((init++[g]).map fun f=> .ref f.q))++N) g.n (.lst (ds++[d]))):=by
 let⟨u,l,Q,A,P,O,L,K,y⟩:=I.last
 have E:=u.lt
 have F:=I.plt
 have G:=I.k.len
 have B:=I.pop
 have w:(M.set p (.lst ((init++[g]).map fun f=> .ref f.q))).length=M.length:=Dx ..
 let⟨J,x,_⟩:=I.d1 g (by simp)
 have H:=(l g (by simp)).1.lt
 have m:∀c,C c->(M.set p (.lst ((init++[g]).map fun f=> .ref f.q)))[c]?=M[c]?:=fun c h=>Yd fun z=>I.d0.1 (z ▸ h)
 refine B.grow (M':=M.set p (.lst ((init++[g]).map fun f=> .ref f.q))++N) (ds:=ds) (by rw[Zb (Au x)];show e) (s.keep (fun _ h=>h) m) (fun c h=> .inl h) (fun c h=>?_) ⟨fun h=>?_,fun j a=>⟨fun h=>?_,fun h=>?_⟩⟩ (fun b v=>N3 v) (by rw[Ae];lia) h
 .rw[Ae,w]
  rcases h with h | h | h
  .have:=I.cl c h
   show⟨this.1,'o'⟩
  .rw[h]
   show⟨y,'o'⟩
  .exact⟨'o','o'⟩
 .rcases h with h | h | h
  .exact I.d0.1 h
  .exact A h.symm
  .lia
 .have i:=l j a
  let⟨_,_,_,r,o,_⟩:=I.d1 j (Kw _ a)
  have:=i.1.lt
  rcases h with h | h | h
  .exact r h
  .exact i.2.2.1 h
  .lia
 .have i:=l j a
  let⟨_,_,_,r,o,_⟩:=I.d1 j (Kw _ a)
  have:=i.1.lt
  rcases h with h | h | h
  .exact o h
  .exact i.2.2.2.2 h
  .lia
def NI.doneK(I:NI M0 p (init++[f]) C M){N:Z2}{x:Cell}{ds:LD}{us:List T}(b:RTs C M us ds):RTs (Cn C f M N) (M.set p x++N) us ds:=
 b.keep (fun c h=> .inl h) fun c h=>by rw[N3 (by rw[Dx];show(I.cl c h).2)];show Yd (a:=p) fun z=>I.d0.1 (by rw[z];show h)
end
structure Fm(C:Nat->Prop)(M:Z2)(m:Nat)(ts:List T)(r:Nat):Prop where
 e:∃ds,Z4 M r=some ds/\RTs C M ts ds
 c:∀c,C c->m<=c/\c<M.length
 n:¬C r/\m<=r
def Ww:DSp:=fun e M Q _=>∃(a:Nat) (b:LG),e=[.ref a]/\Z7 M a=some (b.map Ln.d)/\b.length<=400/\run [] b=some []/\∀C c r,Kp M c->Fm C c M.length (nest b) r->Q (.ref r) c
section
variable{K:Ab}{Γ:List DSp}{G:LD}
def Zg7{st x:List Tp}(h:run st ls=some x)(i:Nat):∃t,run st (ls.take i)=some t:=by
 rw[<-List.take_append_drop i ls,Zj6] at h
 cases e:run st (ls.take i) with
 | none=>rw[e] at h;cases h
 | some t=>show⟨t,rfl⟩
def Xa{a:Type}{ls:List a}{i:Nat}{l:a}(h:ls[i]?=some l):ls.take (i+1)=ls.take i++[l]:=by
 let⟨b,rfl⟩:=Ac.mp h
 rw[List.take_succ,Ag b]
 rfl
structure NA(M:Z2)(a:Nat)(ls:LG)(i:Nat)(cfs:List CF)(C:Nat->Prop)(M':Z2):Prop where
 I:NI M (M.length+2) cfs C M'
 A:(cfs.map CF.abs).reverse=(ls.take i).foldl nst [fr0]
 t:∀f∈cfs,f.t.length<=i
 l:cfs.length<=i+1
abbrev Ne6(a p:Nat)(d c b d5:Option D):DEnv:=[↑a,↑p,d,c,b,d5]
def Ln.nst_beg{l:Ln}(h:l.beg=true)(fs:List Fr):nst fs l=⟨some l,none,[]⟩::fs:=by
 cases l<;>first | rfl | cases h
def Y6(a:List CF)(f:CF):((a++[f]).map CF.abs).reverse=f.abs::(a.map CF.abs).reverse:=by simp
def Zo7(g:Γ[29]?=some Ye):Rd K Γ G Ww C8 Fi:=by
 rintro ds M Q Z ⟨a,ls,rfl,hr,hl,hrun,q⟩
 delta C8 Fi
 rfl'
 simp only[As,Hx,Ir,Ae,Ar,List.length_nil]
 refine⟨Z0 'd',Z0 'd',Z0 'd',Z0 'd',_,Ze hr,?_⟩
 refine Vj (fun i σ M'=>∃cfs C d2 d3 d4 d5,σ=Ne6 a (M.length+2) d2 d3 d4 d5/\NA M a ls i cfs C M') ⟨[⟨M.length+1,M.length,none,none,[]⟩],fun _=>False,none,none,none,none,rfl,?_⟩ ?_ ?_ ?_
 .refine⟨⟨Ks.new _ _,?_,?_,⟨fun z=>z,'o'⟩,?_,Lp _ _,fun c h=>h.elim⟩,rfl,?_,nc _⟩
  .rw[Yj]
   rfl
  .intro f hf
   cases Am.mp hf
   refine⟨?_,⟨[],Za _ _ _,rfl⟩,fun c ts e=>by cases e⟩
   change Z4 _ (M.length+1)=_
   rw[Yj]
   rfl
  .intro f hf
   cases Am.mp hf
   show⟨by change M.length+1≠M.length+2;lia,by change M.length≠M.length+2;lia,by change M.length+1≠M.length;lia,fun z=>z,fun z=>z,by change _<=M.length+1;lia,nc _⟩
  .intro f hf
   cases Am.mp hf
   show nc _
 .rintro i σ M' _ ⟨cfs,C,d2,d3,d4,d5,rfl,N⟩
  show N.I.k.pL hr
 .rintro i d σ M' P hd ⟨cfs,C,d2,d3,d4,d5,rfl,N⟩ hP
  obtain⟨l,hl1,rfl⟩:∃l,ls[i]?=some l/\d=l.d:=by
   rw[Ao] at hd
   cases e:ls[i]? with
   | none=>rw[e] at hd;cases hd
   | some l=>rw[e] at hd;cases hd;show⟨l,rfl,rfl⟩
  have hi:i<400:=by have:=(Ac.mp hl1).1;lia
  let⟨us,e1⟩:=Zg7 hrun i
  let⟨us',e2⟩:=Zg7 hrun (i+1)
  rw[Xa hl1,Zj6,e1] at e2
  replace e2:stp us l=some us':=by
   have:(stp us l).bind (fun t=>run t [])=some us':=e2
   cases h:stp us l with
   | none=>rw[h] at this;cases this
   | some t=>rw[h] at this;show this
  have F:=Fss.run (fs:=[fr0]) (ts:=[]) ⟨[],rfl⟩ e1
  rw[<-N.A] at F
  have A':∀{cfs':List CF},(cfs'.map CF.abs).reverse=nst (cfs.map CF.abs).reverse l->(cfs'.map CF.abs).reverse=(ls.take (i+1)).foldl nst [fr0]:=by
   intro cfs' h
   rw[h,N.A,Xa hl1,List.foldl_append]
   rfl
  rw[tg_one]
  delta Q7
  generalize hB:(Ss.cons (S.ite (E.cmp Cm.eq (E.ix (E.var 2) (E.int 0)) (E.str "else")) _ _) Ss.nil)=B
  rfl'
  simp only[g]
  refine⟨l,rfl,?_⟩
  rfl'
  have hz:=N.l
  cases hb:l.beg with
  | true=>
   rfl'
   refine⟨Z5 (Z1 N.I.o),Z0 'd',Z0 'd',_,Z8 (Z8 N.I.o),Z3 (by rw[Af];lia),hP _ _ ⟨cfs++[⟨M'.length+1,M'.length,some l,none,[]⟩],C,_,_,_,_,rfl,?_,?_,?_,?_⟩⟩
   .have:=N.I.push l
    rw[show(M'++[Cell.lst []]).length=M'.length+1 by simp]
    show this
   .refine A' ?_
    rw[Y6,Ln.nst_beg hb]
    rfl
   .intro f hf
    rcases Az.mp hf with hf | hf
    .have:=N.t f hf
     lia
    .cases Am.mp hf
     show nl _
   .rw[Ae,Ak]
    lia
  | false=>
   let⟨f0,fr,eA,_⟩:=F.top
   rcases Io cfs with rfl | ⟨init,f,rfl⟩
   .cases eA
   rw[Ip] at N F A' eA hz
   let⟨hf,hi',a1,a2,a3,a4,a5,a6,a7⟩:=N.I.last
   let⟨ds,hn,rt⟩:=hf.n
   have hz2:init.length<=i:=by rw[Ae,Ak] at hz;lia
   have ft:=N.t f (by simp)
   have dl:=rt.len
   have lst:atI ((init++[f]).map fun f=>D.ref f.q) (-1)=↑f.q:=by rw[Aw];show Yc1 _ _
   have plain:l.pl=true->l.beg=false->nst (((init++[f]).map CF.abs).reverse) l=⟨f.h,f.y.map (·.2),f.t++[.leaf l]⟩::(init.map CF.abs).reverse->P (Ne6 a (M.length+2) (some l.d) d3 d4 d5) (M'.set f.n (.lst (ds++[l.d]))):=by
    intro h1 h2 h3
    refine hP _ _ ⟨init++[{f with t:=f.t++[.leaf l]}],C,_,_,_,_,rfl,N.I.grow hn rt (fun _ h=>h) N.I.cl ⟨N.I.d0.1,fun g hg=>?_⟩ (fun _ _=>rfl) (nc _) (show RT C M' (.leaf l) l.d from⟨rfl,h1,h2⟩),A' ?_,?_,?_⟩
    .let⟨_,_,_,b4,b5,_⟩:=N.I.d1 g hg
     show⟨b4,b5⟩
    .rw[Y6,h3]
     rfl
    .intro g hg
     rcases Az.mp hg with hg | hg
     .have:=N.t g (by simp[hg])
      lia
     .cases Am.mp hg
      show(f.t++[_]).length<=_
      rw[Ae,Ak]
      lia
    .rw[Ae,Ak]
     lia
   have put:∀P':DK,(∀Y,P' Y (M'.set f.n (.lst (ds++[l.d]))))->ixD M' (.ref (M.length+2)) (.int (-1)) fun d=>ixD M' d (.int 2) fun d'=>mtK .append d' M'/\mtD .append d' [l.d] M' P':=by
    intro P' h
    refine Tf (Z1 N.I.o) lst (ix_l (k:=2) (Z1 hf.q) rfl ⟨Z5 (Z1 hn),?_⟩)
    rfl'
    show⟨_,hn,Z3 'o',h _⟩
   cases l with
   | cond _ _ _=>cases hb
   | rnd _=>cases hb
   | prt _=>cases hb
   | sum x o1 s o2=>
    dsimp only[Ln.d]
    rfl'
    subst hB
    generalize hB:(Ss.cons (S.setL [3,4,5] _) _)=B
    rfl'
    show put _ fun _=>plain rfl rfl (by rw[Y6];rfl)
   | lve n=>
    dsimp only[Ln.d]
    rfl'
    subst hB
    generalize hB:(Ss.cons (S.setL [3,4,5] _) _)=B
    rfl'
    show put _ fun _=>plain rfl rfl (by rw[Y6];rfl)
   | agn n=>
    dsimp only[Ln.d]
    rfl'
    subst hB
    generalize hB:(Ss.cons (S.setL [3,4,5] _) _)=B
    rfl'
    show put _ fun _=>plain rfl rfl (by rw[Y6];rfl)
   | fin=>
    dsimp only[Ln.d]
    rfl'
    subst hB
    generalize hB:(Ss.cons (S.setL [3,4,5] _) _)=B
    rfl'
    show put _ fun _=>plain rfl rfl (by rw[Y6];rfl)
   | els=>
    clear plain put
    simp only[Ln.d]
    rfl'
    subst hB
    generalize hB:(Ss.cons (S.setL [3,4,5] _) _)=B
    rfl'
    refine Tf (Z1 N.I.o) lst (ix_l (k:=2) (Z1 hf.q) rfl (Tf (Z1 N.I.o) lst (.inl ⟨_,1,1,rfl,hf.q,rfl,Z0 'd',?_⟩)))
    refine Tf (Ze (by rw[W5 a1];show Z1 N.I.o)) lst (.inl ⟨_,2,2,rfl,Z8 (Zh hf.lt.1),rfl,?_⟩)
    rw[Dx]
    refine hP _ _ ⟨init++[⟨f.q,M'.length,f.h,some (f.n,f.t),[]⟩],_,_,_,_,_,rfl,N.I.els,A' (by rw[Y6,Y6];rfl),?_,?_⟩
    .intro g hg
     rcases Az.mp hg with hg | hg
     .have:=N.t g (by simp[hg])
      lia
     .cases Am.mp hg
      show nl _
    .rw[Ae,Ak]
     lia
   | don=>
    clear plain put
    let⟨t,rfl⟩:=B9 e2
    rw[Y6] at F
    let⟨f1,fr1,ef,ht,F2⟩:=F
    cases ef
    let⟨g0,gr,eg,_⟩:=F2.top
    rcases Io init with rfl | ⟨init',gg,rfl⟩
    .cases eg
    rw[Ip] at *
    have xl:((init'++[gg]++[f]).map fun f=>D.ref f.q)[((init'++[gg]++[f]).map fun f=>D.ref f.q).length - 1]?=↑f.q:=by rw[Aw,Ae];simp
    have xd:((init'++[gg]++[f]).map fun f=>D.ref f.q).dropLast=(init'++[gg]).map fun f=>D.ref f.q:=by rw[Aw];simp
    have hg:=hi' gg (by simp)
    let⟨dg,hgn,rg⟩:=hg.1.n
    let⟨b1,b2,_⟩:=N.I.d1 gg (by simp)
    have gt:=N.t gg (by simp)
    have gl:=rg.len
    simp only[Ln.d]
    rfl'
    subst hB
    generalize hB:(Ss.cons (S.ite (E.cmp Cm.ne (E.ix (E.var 3) (E.int 0)) (E.str "if")) _ _) Ss.nil)=B
    rfl'
    refine⟨Z5 (Z1 N.I.o),_,_,N.I.o,xl,?_⟩
    rw[xd]
    rfl'
    refine⟨[f.hd,f.yd,.ref f.n],by rw[W5 (Au a1)];show Z1 hf.q,rfl,?_⟩
    simp only[List.zip_cons_cons,List.zip_nil_right,Kq,List.foldl_nil,List.set_cons_succ,List.set_cons_zero]
    rfl'
    have glst:atI ((init'++[gg]).map fun f=>D.ref f.q) (-1)=↑gg.q:=by rw[Aw];show Yc1 _ _
    have hpl:=N.I.plt
    have o1:Z7 (M'.set (M.length+2) (.lst ((init'++[gg]).map fun f=> .ref f.q))) (M.length+2)=some ((init'++[gg]).map fun f=> .ref f.q):=Z1 (Zh hpl)
    have o2:Z7 (M'.set (M.length+2) (.lst ((init'++[gg]).map fun f=> .ref f.q))) gg.q=some [gg.hd,gg.yd,.ref gg.n]:=by rw[W5 (Au b1)];show Z1 hg.1.q
    have o3:Z4 (M'.set (M.length+2) (.lst ((init'++[gg]).map fun f=> .ref f.q))) gg.n=some dg:=by rw[Zb (Au b2)];show hgn
    have hn':∀N':Z2,Z4 (M'.set (M.length+2) (.lst ((init'++[gg]).map fun f=> .ref f.q))++N') f.n=some ds:=fun N'=>Z8 (by rw[Zb (Au a2)];show hn)
    have hM:(M'.set (M.length+2) (.lst ((init'++[gg]).map fun f=> .ref f.q))).length=M'.length:=Dx ..
    have fin:∀(N':Z2) (d:D) (d3 d4 d5:Option D),RT (Cn C f M' N') (M'.set (M.length+2) (.lst ((init'++[gg]).map fun f=> .ref f.q))++N') f.abs.mk' d->P (Ne6 a (M.length+2) (some (Ln.don).d) d3 d4 d5) (He (M'.set (M.length+2) (.lst ((init'++[gg]).map fun f=> .ref f.q))++N') gg.n (.lst (dg++[d]))):=by
     intro N' d d3 d4 d5 h
     refine hP _ _ ⟨init'++[{gg with t:=gg.t++[f.abs.mk']}],_,_,_,_,_,rfl,N.I.done hgn rg h,A' (by rw[Y6,Y6,Y6];rfl),?_,?_⟩
     .intro g hg
      rcases Az.mp hg with hg | hg
      .have:=N.t g (by simp[hg])
       lia
      .cases Am.mp hg
       show(gg.t++[_]).length<=_
       rw[Ae,Ak]
       lia
     .simp only[Ae,Ak] at hz ⊢
      lia
    have put:∀(N':Z2) (d:D) (d3 d4 d5:Option D),RT (Cn C f M' N') (M'.set (M.length+2) (.lst ((init'++[gg]).map fun f=> .ref f.q))++N') f.abs.mk' d->mtD .append (.ref gg.n) [d] (M'.set (M.length+2) (.lst ((init'++[gg]).map fun f=> .ref f.q))++N') fun _ M1=>P (Ne6 a (M.length+2) (some (Ln.don).d) d3 d4 d5) M1:=by
     intro N' d d3 d4 d5 h
     show⟨_,Z8 o3,Z3 'o',fin N' d d3 d4 d5 h⟩
    let⟨fq,fn,fh,fy,ft'⟩:=f
    cases t with
    | crd=>
     let⟨hy,n,hh⟩:=ht
     cases hh
     simp only[CF.hd,CF.yd,Ln.d]
     subst hB
     generalize hB:(Ss.cons (S.ite (E.cmp Cm.is (E.var 4) E.non) _ _) Ss.nil)=B
     rfl'
     refine Tf o1 glst (ix_l (k:=2) o2 rfl ⟨Z5 (Z1 o3),Z0 'd',by simp,Z0 'd',?_⟩)
     have:=put [] (.tup [.str "round",.int n,.ref fn]) (some (.tup [.str "round",.int n])) (some (match fy with | none=> .non | some (c,_)=> .ref c)) (↑fn) (show RT _ _ (.home true n ft') _ from⟨fn,ds,rfl,.inr (.inl rfl),hn' [],N.I.doneK rt⟩)
     rw[Du] at this
     show this
    | cpt=>
     let⟨hy,n,hh⟩:=ht
     cases hh
     simp only[CF.hd,CF.yd,Ln.d]
     subst hB
     generalize hB:(Ss.cons (S.ite (E.cmp Cm.is (E.var 4) E.non) _ _) Ss.nil)=B
     rfl'
     refine Tf o1 glst (ix_l (k:=2) o2 rfl ⟨Z5 (Z1 o3),Z0 'd',by simp,Z0 'd',?_⟩)
     have:=put [] (.tup [.str "part",.int n,.ref fn]) (some (.tup [.str "part",.int n])) (some (match fy with | none=> .non | some (c,_)=> .ref c)) (↑fn) (show RT _ _ (.home false n ft') _ from⟨fn,ds,rfl,.inr (.inl rfl),hn' [],N.I.doneK rt⟩)
     rw[Du] at this
     show this
    | cif=>
     let⟨hy,x,s,y,hh⟩:=ht
     cases hh
     cases fy with
     | some z=>cases hy
     | none=>
      simp only[CF.hd,CF.yd,Ln.d]
      subst hB
      rfl'
      refine Tf o1 glst (ix_l (k:=2) o2 rfl ⟨Z5 (Z1 o3),?_⟩)
      rw[show cutD [D.str "if",x.d,D.str s,y.d] (some 1) none=[x.d,D.str s,y.d] from rfl]
      refine⟨Z0 'd','d',by simp,Z0 (Nat.le_of_ble_eq_true rfl),Z0 'd',Z0 'd',by simp,Z0 (Nat.le_of_ble_eq_true rfl),?_⟩
      show put [.lst []] (.tup [.str "choice",x.d,.str s,y.d,.ref fn,.ref (M'.set (M.length+2) (.lst ((init'++[gg]).map fun f=> .ref f.q))).length]) _ _ _ (show RT _ _ (.cho x s y ft' []) _ from⟨fn,_,ds,[],rfl,.inr (.inl rfl),.inr (.inr (by rw[hM];show⟨nc _,Nat.lt_succ_self _⟩)),hn' _,N.I.doneK rt,Za _ _ _,rfl⟩)
    | cel=>
     let⟨hy,x,s,y,hh⟩:=ht
     cases hh
     cases fy with
     | none=>cases hy
     | some z=>
      let⟨c,us⟩:=z
      simp only[CF.hd,CF.yd,Ln.d]
      subst hB
      rfl'
      refine Tf o1 glst (ix_l (k:=2) o2 rfl ⟨Z5 (Z1 o3),?_⟩)
      rw[show cutD [D.str "if",x.d,D.str s,y.d] (some 1) none=[x.d,D.str s,y.d] from rfl]
      refine⟨Z0 'd','d',by simp,Z0 (Nat.le_of_ble_eq_true rfl),Z0 'd',by simp,Z0 (Nat.le_of_ble_eq_true rfl),?_⟩
      let⟨y1,dy,y2,y3⟩:=hf.y c us rfl
      have:=put [] (.tup [.str "choice",x.d,.str s,y.d,.ref c,.ref fn]) (some (.tup [.str "if",x.d,.str s,y.d])) (↑c) (↑fn) (show RT _ _ (.cho x s y us ft') _ from⟨c,fn,dy,ds,rfl,.inl y1,.inr (.inl rfl),Z8 (by rw[Zb (fun z=>N.I.d0.1 (by rw[z];show y1))];show y2),N.I.doneK y3,hn' _,N.I.doneK rt⟩)
      rw[Du] at this
      show this
 .rintro σ M' ⟨cfs,C,d2,d3,d4,d5,rfl,N⟩
  have A:=N.A
  rw[Af,Lg,Nq hrun] at A
  delta Qb
  rfl'
  rcases Io cfs with rfl | ⟨init,f,rfl⟩
  .cases A
  rw[Ip] at N A
  rw[Y6] at A
  let⟨q1,q2⟩:=List.cons.inj A
  have:init=[]:=by cases init<;>simp_all
  subst this
  rw[Ir] at N
  let⟨hf,hi',a1,a2,a3,a4,a5,a6,a7⟩:=(show NI M (M.length+2) ([]++[f]) C M' from N.I).last
  refine ix_l (k:=0) (Z1 N.I.o) rfl (ix_l (k:=2) (Z1 hf.q) rfl (q C M' f.n N.I.k ⟨?_,N.I.cl,a5,a7⟩))
  have e:f.t=nest ls:=congrArg Fr.n q1
  rw[<-e]
  show hf.n
end
def Ln.g:Ln->D
 | .cond a s b=> .tup [.str "choice",a.d,.str s,b.d]
 | .els=> .gtup [.str "else"]
 | .don=> .gtup [.str "done"]
 | l=>l.d
def hdL:T->Ln
 | .leaf l=>l
 | .home r n _=>if r then .rnd n else .prt n
 | .cho a s b _ _=> .cond a s b
def sub':T->List T
 | .leaf _=>[]
 | .home _ _ b=>b++[.leaf .don]
 | .cho _ _ _ y []=>y++[.leaf .don]
 | .cho _ _ _ y (t::a)=>(y++[.leaf .els])++(t::a)++[.leaf .don]
def Y21(t:T):fl t=hdL t::fls (sub' t):=by
 cases t with
 | leaf l=>rfl
 | home r n b=>rw[J9];change _=_::fls (b++[.leaf .don]);rw[Wb];rfl
 | cho a s b y n=>
  cases n with
  | nil=>rw[G8];change _=_::fls (y++[.leaf .don]);rw[Wb];rfl
  | cons t c=>
   rw[Cq]
   change _=_::fls ((y++[.leaf .els])++(t::c)++[.leaf .don])
   rw[Wb,Wb,Wb]
   simp[Wz,Sk,Zl6,hdL]
def Pa(ts:List T):ts.length<=(fls ts).length:=by
 induction ts with
 | nil=>show nl _
 | cons t ts a=>rw[Wz,Y21,Ae,Ar,Ar];lia
def RG(C:Nat->Prop)(M:Z2)(t:T)(d:D):Prop:=RT C M t d\/(t= .leaf .don/\d= .gtup [.str "done"])\/(t= .leaf .els/\d= .gtup [.str "else"])
def RGs(C:Nat->Prop)(M:Z2):List T->LD->Prop
 | [],a=>a=[]
 | t::b,a=>∃d r,a=d::r/\RG C M t d/\RGs C M b r
def RG.keep(k:∀c,C c->M'[c]?=M[c]?){t:T}{d:D}(h:RG C M t d):RG C M' t d:=h.imp (fun z=>z.keep (fun _ h=>h) k) fun z=>z
def RGs.keep(k:∀c,C c->M'[c]?=M[c]?):∀{ts:List T} {ds:LD},RGs C M ts ds->RGs C M' ts ds
 | [],ds,h=>h
 | t::ts,ds,zy14=>by
  let⟨d,r,e,b,a⟩:=zy14
  show⟨d,r,e,b.keep k,RGs.keep k a⟩
def RTs.rg:∀{ts:List T} {ds:LD},RTs C M ts ds->RGs C M ts ds
 | [],ds,h=>h
 | t::ts,ds,zy15=>by
  let⟨d,r,e,b,a⟩:=zy15
  show⟨d,r,e,.inl b,RTs.rg a⟩
def RGs.len:∀{ts:List T} {ds:LD},RGs C M ts ds->ds.length=ts.length
 | [],ds,h=>by cases h;rfl
 | t::ts,ds,zy16=>by
  let⟨d,r,e,b,a⟩:=zy16
  rw[e,Ar,Ar,RGs.len a]
def RGs.app:∀{ts us:List T} {ds es:LD},RGs C M ts ds->RGs C M us es->RGs C M (ts++us) (ds++es)
 | [],us,ds,es,h,g=>by cases h;show g
 | t::ts,us,ds,es,zy17,g=>by
  let⟨d,r,e,b,a⟩:=zy17
  rw[e];show⟨d,r++es,rfl,b,RGs.app a g⟩
def B5:RGs C M [.leaf .don] [.gtup [.str "done"]]:=⟨_,_,rfl,.inr (.inl ⟨rfl,rfl⟩),rfl⟩
def Y91:RGs C M [.leaf .els] [.gtup [.str "else"]]:=⟨_,_,rfl,.inr (.inr ⟨rfl,rfl⟩),rfl⟩
def Rm:DSp:=fun a M Q _=>∃C t d,a=[d]/\RG C M t d/\Q (hdL t).g M
def Z75:DSp:=fun e M Q _=>∃C t d,e=[d]/\RG C M t d/\(∀c,C c->c<M.length)/\(fl t).length<=1000/\∀b r a,Kp M b->RGs C b (sub' t) a->Z4 b r=some a->M.length<=r->Q (.ref r) b
def Vx:DSp:=fun f M Q _=>∃C b r a,f=[.ref r]/\Z4 M r=some a/\RTs C M b a/\(∀c,C c->c<M.length)/\(fls b).length<=1000/\∀e d,Kp M e->Z4 e d=some ((fls b).map Ln.g)->M.length<=d->Q (.ref d) e
def Ks.cl{M M':Z2}{C:Nat->Prop}(k:Kp M M')(h:∀c,C c->c<M.length):∀c,C c->M'[c]?=M[c]?:=fun c a=>k.at' c (fun z=>z) (h c a)
section
variable{K:Ab}{Γ:List DSp}{G:LD}
abbrev rp:LD:=[.str "round",.str "part"]
def Yc4{d:D}(b:d= .tup (.str h::xs)\/d= .gtup (.str h::xs))(a:inD (.str h) rp=false)(q:Q d M):tss ⟨K,Γ,G⟩ noX X4 {nx:=fun _ M=>Q .non M,rt:=Q} [some d] M:=by
 delta X4
 rcases b with rfl | rfl
 .rfl'
  refine⟨Z0 'd',rfl,rfl,?_⟩
  dsimp only
  rw[a,ng Bf9]
  delta Vg
  rfl'
  show q
 .rfl'
  refine⟨Z0 'd',rfl,rfl,?_⟩
  dsimp only
  rw[a,ng Bf9]
  delta Vg
  rfl'
  show q
def Y36{n:Int}{c:Nat}(a:inD (.str h) rp=true)(q:Q (.tup [.str h,.int n]) M):tss ⟨K,Γ,G⟩ noX X4 {nx:=fun _ M=>Q .non M,rt:=Q} [some (.tup [.str h,.int n,.ref c])] M:=by
 delta X4
 rfl'
 refine⟨Z0 'd',rfl,rfl,?_⟩
 dsimp only
 rw[a,nh rfl]
 show q
def Zs8:Rd K Γ G Rm Ey Eh:=by
 rintro ds M Q Z ⟨C,t,d,rfl,h,q⟩
 delta Ey Eh
 rcases h with h | ⟨rfl,rfl⟩ | ⟨rfl,rfl⟩
 .cases t with
  | leaf l=>
   let⟨rfl,f,e⟩:=h
   cases l with
   | cond=>cases e
   | rnd=>cases e
   | prt=>cases e
   | els=>cases f
   | don=>cases f
   | _=>
    simp only[Ln.d]
    rfl'
    show Yc4 (.inl rfl) 'k' q
  | home r n b=>
   let⟨c,ds,rfl,_⟩:=h
   cases r with
   | true=>
    simp only[if_true]
    rfl'
    show Y36 'k' q
   | false=>
    simp only[Bool.false_eq_true,if_false]
    rfl'
    show Y36 'k' q
  | cho a s b y n=>
   let⟨k,j,i,g,rfl,_⟩:=h
   rfl'
   show⟨'d',q⟩
 .rfl'
  show Yc4 (.inr rfl) 'k' q
 .rfl'
  show Yc4 (.inr rfl) 'k' q
def Yc9{d:D}(c:d= .tup (.str h::xs)\/d= .gtup (.str h::xs))(a:inD (.str h) rp=false)(b:¬h="choice")(q:Q (.ref M.length) (M++[.lst []])):tss ⟨K,Γ,G⟩ noX Y8 {nx:=fun _ M=>Q .non M,rt:=Q} (start0 Y7 [d]) M:=by
 delta Y8 Y7
 rcases c with rfl | rfl
 .rfl'
  refine⟨Z0 'd',rfl,rfl,?_⟩
  dsimp only
  rw[a,ng Bf9]
  delta Yn
  rfl'
  rw[nh b]
  show⟨Z0 'd',q⟩
 .rfl'
  refine⟨Z0 'd',rfl,rfl,?_⟩
  dsimp only
  rw[a,ng Bf9]
  delta Yn
  rfl'
  rw[nh b]
  show⟨Z0 'd',q⟩
def Zg1(d:G[3]?=some (.gtup [.str "done"])){n:Int}{c:Nat}(a:inD (.str h) rp=true)(b:Z4 M c=some ds)(e:ds.length<=1000)(q:Q (.ref (M++[Cell.lst [D.gtup [.str "done"]]]).length) (M++[Cell.lst [D.gtup [.str "done"]]]++[.lst (ds++[.gtup [.str "done"]])])):tss ⟨K,Γ,G⟩ noX Y8 {nx:=fun _ M=>Q .non M,rt:=Q} (start0 Y7 [.tup [.str h,.int n,.ref c]]) M:=by
 delta Y8 Y7
 rfl'
 refine⟨Z0 'd',rfl,rfl,?_⟩
 dsimp only
 rw[a,nh rfl]
 simp only[d]
 rfl'
 show⟨Z0 'd',_,_,Z8 b,Za _ _ [],Z0 (by rw[Ak];lia),q⟩
def Nu(P:G[2]?=some (.gtup [.str "else"]))(k:G[3]?=some (.gtup [.str "done"])):Rd K Γ G Z75 Y8 Y7:=by
 rintro ds M Q Z ⟨C,t,d,rfl,h,i,g,q⟩
 have S:∀l,sub' (.leaf l)=[]:=fun _=>rfl
 have x:sub' t=[]->Q (.ref M.length) (M++[.lst []]):=fun e=>q _ _ [] (Ks.new _ _) (by rw[e];rfl) (Za _ _ _) (nc _)
 rcases h with h | ⟨rfl,rfl⟩ | ⟨rfl,rfl⟩
 .cases t with
  | leaf l=>
   let⟨rfl,w,j⟩:=h
   cases l with
   | cond=>cases j
   | rnd=>cases j
   | prt=>cases j
   | els=>cases w
   | don=>cases w
   | _=>show Yc9 (.inl rfl) 'k' 'k' (x rfl)
  | home r n b=>
   let⟨c,ds,rfl,U,B,A⟩:=h
   have E:ds.length<=1000:=by
    have:=Pa b
    rw[J9,Ar,Ae] at g
    rw[A.len]
    lia
   have f:=q (M++[Cell.lst [D.gtup [.str "done"]]]++[.lst (ds++[.gtup [.str "done"]])]) _ _ ((Ks.new _ _).app _) ((A.rg.keep (((Ks.new M _).app _).cl i)).app B5) (Za _ _ _) (by rw[Ae];lia)
   cases r with
   | true=>show Zg1 k 'k' B E f
   | false=>show Zg1 k 'k' B E f
  | cho a s b y n=>
   let⟨J,I,z,m,rfl,w,j,H,v,F,u⟩:=h
   delta Y8 Y7
   rfl'
   refine⟨Z0 'd',rfl,rfl,?_⟩
   dsimp only
   rw[show inD (.str "choice") [.str "round",.str "part"]=false by decide+kernel,ng Bf9]
   delta Yn
   rfl'
   delta Wa
   rfl'
   rw[ng (by simp),show cutD [D.str "choice",a.d,D.str s,b.d,D.ref J,D.ref I] (some 4) none=[.ref J,.ref I] from rfl]
   refine⟨'d',?_⟩
   rfl'
   have T:=v.len
   have N:=u.len
   have V:=Pa y
   have O:=Pa n
   have p:Kp M (M++[.lst []]):=Ks.new _ _
   refine⟨Z0 'd',Q6 (Ze (Z1 F)) (Zj _ _ []) ?_⟩
   cases n with
   | nil=>
    cases u
    simp only[List.isEmpty_nil,k]
    rfl'
    rw[G8,Ar,Ae] at g
    refine⟨Z0 'd',_,_,Z8 (Z8 H),Za _ _ [],Z0 (by rw[Ak];lia),?_⟩
    refine q _ _ _ ((p.app _).app _) ((v.rg.keep (((p.app _).app _).cl i)).app B5) (Za _ _ _) ?_
    simp only[Ae]
    lia
   | cons t R=>
    rw[Cq] at g
    simp only[Ar,Ae] at g N O
    have L:m.isEmpty=false:=by cases m<;>simp_all
    rw[L,ng Bf9]
    delta W8
    rfl'
    simp only[P,k]
    refine⟨Z0 'd',_,_,Z8 (Z8 H),Za _ _ [],Z0 (by rw[Ak];lia),?_⟩
    rfl'
    refine⟨_,_,Za _ _ [],Z8 (Z8 (Z8 F)),Z0 (by simp only[Ae,Ak];lia),?_⟩
    refine⟨Z0 'd',_,_,Z8 (Za _ _ []),Za _ _ [],Z0 (by simp only[Ae,Ak];lia),?_⟩
    have o:=(((((p.app [Cell.lst [D.gtup [.str "else"]]]).app [Cell.lst (z++[D.gtup [.str "else"]])]).app [Cell.lst (z++[D.gtup [.str "else"]]++m)]).app [Cell.lst [D.gtup [.str "done"]]]).app [Cell.lst (z++[D.gtup [.str "else"]]++m++[D.gtup [.str "done"]])])
    refine q _ _ _ o ((((v.rg.keep (o.cl i)).app Y91).app (u.rg.keep (o.cl i))).app B5) (Za _ _ _) ?_
    simp only[Ae]
    lia
 .exact Yc9 (.inr rfl) 'k' 'k' (x rfl)
 .exact Yc9 (.inr rfl) 'k' 'k' (x rfl)
def Z96(gl:Γ[0]?=some Rm)(gt:Γ[1]?=some Z75):Rd K Γ G Vx Pv Nh:=by
 rintro ds M Q Z ⟨C,J,r,I,rfl,hr,rt,o,hz,q⟩
 delta Pv Nh
 generalize hw:S.while_ _ _=w
 rfl'
 refine⟨Z0 'd',_,Ze (Z1 hr),?_⟩
 rw[As]
 subst hw
 refine U.J7 (c:=⟨K,Γ,G⟩) (X:=noX) (fun z b=>∃(d:Option D) (i:LG) (f:List T) (e:LD),z=[↑r,↑M.length,some (.ref (M.length+1)),d]/\Kp M b/\Z4 b M.length=some (i.map Ln.g)/\Z4 b (M.length+1)=some e.reverse/\RGs C b f e/\i++fls f=fls J) (fun z b=>1000 - ((Z4 b M.length).getD []).length)
  ?_ ?_
 .exact⟨none,[],J,I,by simp,Ks.new _ _,Za _ _ _,Yj _ _ 1,rt.rg.keep ((Ks.new M _).cl o),rfl⟩
 rintro z b ⟨d,i,f,e,rfl,k,Y,W,L,x⟩
 rfl'
 refine⟨Z0 'd',Q6 (Ze (Z1 W)) (Zj _ _ []) ?_⟩
 have P:Kp M (b++[.lst []]):=k.app _
 have u:=Z8 (N:=[.lst []]) Y
 have l:=Z8 (N:=[.lst []]) W
 have kc:∀c,C c->(b++[Cell.lst []])[c]?=b[c]?:=fun c h=>N3 (ni (o c h) k.len)
 have A:=L.keep kc
 cases f with
 | nil=>
  cases L
  rw[Sk,Du] at x
  subst x
  simp only[List.reverse_nil,List.isEmpty_nil]
  rfl'
  delta R9
  rfl'
  show q _ _ P u (nc _)
 | cons t f=>
  let⟨d,e,rfl,V,R⟩:=A
  have en:((d::e).reverse).isEmpty=false:=by simp
  rw[en]
  delta Rg
  rfl'
  have fz:i.length+((fl t).length+(fls f).length)<=1000:=by
   rw[<-Ae,<-Wz,<-Ae,x]
   show hz
  have ft:1<=(fl t).length:=by rw[Y21,Ar];lia
  have y0:e.length<=1000:=by rw[R.len];have:=Pa f;lia
  refine⟨Z5 (Z1 l),_,d,l,by simp,?_⟩
  rw[show(d::e).reverse.dropLast=e.reverse by simp]
  have B:=Zd (Z1 l)
  have H:Z4 (He (b++[Cell.lst []]) (M.length+1) (.lst e.reverse)) M.length=some (i.map Ln.g):=by rw[Zb 'o'];show u
  have p:∀c,C c->(He (b++[Cell.lst []]) (M.length+1) (.lst e.reverse))[c]?=(b++[Cell.lst []])[c]?:=fun c h=>Yd (a:=M.length+1) (by have:=o c h;lia)
  refine⟨Z5 (Z1 H),?_⟩
  simp only[gl]
  refine⟨C,t,d,rfl,V.keep p,?_⟩
  rfl'
  refine⟨_,H,Z3 (by rw[Af];lia),?_⟩
  have m:∀c,C c->((He (b++[Cell.lst []]) (M.length+1) (.lst e.reverse)).set M.length (.lst (i.map Ln.g++[(hdL t).g])))[c]?=(b++[Cell.lst []])[c]?:=fun c h=>by
   rw[Yd (a:=M.length) (by have:=o c h;lia)]
   show p c h
  have v:Kp M ((He (b++[Cell.lst []]) (M.length+1) (.lst e.reverse)).set M.length (.lst (i.map Ln.g++[(hdL t).g]))):=(P.set (.inr 'o')).set (.inr (nc _))
  have F:Z4 ((He (b++[Cell.lst []]) (M.length+1) (.lst e.reverse)).set M.length (.lst (i.map Ln.g++[(hdL t).g]))) M.length=some ((i++[hdL t]).map Ln.g):=by
   rw[Zh (Zd (Z1 H)),Aw]
   rfl
  have E:Z4 ((He (b++[Cell.lst []]) (M.length+1) (.lst e.reverse)).set M.length (.lst (i.map Ln.g++[(hdL t).g]))) (M.length+1)=some e.reverse:=by
   rw[Zb 'o',Zh B]
  generalize (He (b++[Cell.lst []]) (M.length+1) (.lst e.reverse)).set M.length (.lst (i.map Ln.g++[(hdL t).g]))=M4 at m v F E ⊢
  refine⟨Z5 (Z1 E),?_⟩
  simp only[gt]
  have j:∀c,C c->c<M4.length:=fun c h=>ni (o c h) v.len
  refine⟨C,t,d,rfl,V.keep m,j,'o',fun M5 r5 y n g5 e5 l5=>?_⟩
  have z0:=v.len
  have s:=n.pW E
  have x0:y.length<=1000:=by
   rw[g5.len]
   have:=Pa (sub' t)
   rw[Y21,Ar] at fz
   lia
  refine⟨_,Z1 e5,_,_,Z8 s,Za _ _ _,Z0 (by rw[Ij,Ij];lia),⟨_,i++[hdL t],sub' t++f,y++e,rfl,((v.trans n).app _).set (.inr 'o'),?_,?_,?_,?_⟩,?_⟩
  .rw[Zb 'o']
   show Z8 (n.pW F)
  .rw[Zh (Zd (Z1 (Z8 s))),Dl]
  .have O:∀c,C c->(He (M5++[Cell.lst y.reverse]) (M.length+1) (.lst (e.reverse++y.reverse)))[c]?=M5[c]?:=fun c h=>by
    rw[Yd (a:=M.length+1) (by have:=o c h;lia)]
    show N3 (ni (j c h) n.len)
   show(g5.keep O).app ((R.keep m).keep (fun c h=>(O c h).trans (n.cl j c h)))
  .rw[<-x,Wz,Y21,Wb]
   simp
  .rw[Zb 'o',Z8 (n.pW F),Y]
   simp
   lia
end
section
variable{K:Ab}
def fN:D->Bool
 | .bl _ | .int _ | .str _=>true
 | _=>false
def AL(M:Z2):Nat->D->D->Prop
 | 0,x,y=>x=y/\fN x=true
 | n+1,x,y=>(x=y/\fN x=true)\/(∃d c,x= .tup d/\y= .tup c/\d.length=c.length/\∀(i:Nat) a b,d[i]?=some a->c[i]?=some b->AL M n a b)\/
   ∃m k d c,x= .ref m/\y= .ref k/\Z4 M m=some d/\Z4 M k=some c/\d.length=c.length/\∀(i:Nat) a b,d[i]?=some a->c[i]?=some b->AL M n a b
def Xd(n:Nat):DSp:=fun a M Q _=>∃x y,a=[x,y]/\AL M n x y/\Q (.bl true) M
def AL.flat{n:Nat}{x:D}(h:fN x=true):AL M n x x:=by
 cases n with
 | zero=>show⟨rfl,h⟩
 | succ n=>show .inl ⟨rfl,h⟩
def AL.up:∀{n m:Nat} {x y:D},AL M n x y->n<=m->AL M m x y
 | 0,m,x,y,h,_=>by let⟨rfl,h⟩:=h;show AL.flat h
 | n+1,0,x,y,h,l=>absurd l (Nat.not_succ_le_zero _)
 | n+1,m+1,x,y,h,l=>by
  rcases h with h | ⟨d,c,j,g,f,e⟩ | ⟨a,b,d,c,j,g,f,e,q,p⟩
  .exact .inl h
  .exact .inr (.inl ⟨d,c,j,g,f,fun i x y o k=>(e i x y o k).up (Nat.le_of_succ_le_succ l)⟩)
  .exact .inr (.inr ⟨a,b,d,c,j,g,f,e,q,fun i x y o k=>(p i x y o k).up (Nat.le_of_succ_le_succ l)⟩)
def Ol{Γ G}{x:D}(h:fN x=true)(q:Q (.bl true) M):tss ⟨K,Γ,G⟩ noX V1 {nx:=fun _ M=>Q .non M,rt:=Q} (start0 Wv [x,x]) M:=by
 delta V1 Wv
 cases x with
 | bl b=>
  rfl'
  simpa using q
 | int i=>
  rfl'
  delta Xl
  rfl'
  simpa using q
 | str z=>
  rfl'
  delta Xl
  rfl'
  delta Ws
  rfl'
  simpa using q
 | _=>left
def Ym0{i:Nat}{d:D}(h:(zipT xs ys)[i]?=some d):∃a b,xs[i]?=some a/\ys[i]?=some b/\d= .tup [a,b]:=by
 unfold zipT at h
 rw[Ao,Ch] at h
 let⟨p,e,rfl⟩:=h
 rw[List.getElem?_zip_eq_some] at e
 show⟨_,_,e.1,e.2,rfl⟩
def Ft{Γ G}{n:Nat}(g:Γ[41]?=some (Xd n)){x y:D}{own:Own}(m:xs.length=ys.length)(h:∀(i:Nat) a b,xs[i]?=some a->ys[i]?=some b->AL M n a b)
  (l:∀F:DK,F (.int xs.length) M->bfD K .len [x] M F) (k:∀F:DK,F (.int ys.length) M->bfD K .len [y] M F) (hz:∀F:Own->LD->Prop,F own (zipT xs ys)->zip2 M x y F) (st:Pp own (zipT xs ys) M) (q:Q (.bl true) M):
  tss ⟨K,Γ,G⟩ noX S3 {nx:=fun _ M=>Q .non M,rt:=Q} [some x,some y,none,none] M:=by
 delta S3
 rfl'
 refine l _ (k _ ?_)
 rfl'
 rw[ng (by rw[m];simp)]
 delta Oi
 rfl'
 rw[at2_xy]
 refine hz _ ?_
 refine Vj (fun i c j=>∃f e,c=[some x,some y,f,e]/\j=M) ⟨none,none,rfl,rfl⟩ ?_ ?_ ?_
 .rintro i c j _ ⟨f,e,rfl,rfl⟩
  show st
 .rintro i d c j C o ⟨f,e,rfl,rfl⟩ p
  let⟨a,b,s,r,rfl⟩:=Ym0 o
  rw[tg_two]
  delta Ow
  rfl'
  simp only[g]
  refine⟨_,_,rfl,h i a b s r,?_⟩
  rfl'
  show p _ _ ⟨_,_,rfl,rfl⟩
 .rintro c j ⟨f,e,rfl,rfl⟩
  delta O3
  rfl'
  show q
def Zi6{Γ G}:Rd K Γ G (Xd 0) V1 Wv:=by
 rintro ds M Q Z ⟨x,y,rfl,⟨rfl,h⟩,q⟩
 show Ol h q
def Zs6{Γ G}{n:Nat}(g:Γ[41]?=some (Xd n)):Rd K Γ G (Xd (n+1)) V1 Wv:=by
 rintro ds M Q Z ⟨x,y,rfl,h | ⟨e,d,rfl,rfl,i,h⟩ | ⟨m,k,e,d,rfl,rfl,c,b,i,h⟩,q⟩
 .let⟨rfl,h⟩:=h
  show Ol h q
 .delta V1 Wv
  rfl'
  delta Xl
  rfl'
  delta Ws
  rfl'
  delta S6
  rfl'
  delta Sg
  rfl'
  show Ft (own:= .no) g i h (fun F f=>f) (fun F f=>f) (fun F f=>f) trivial q
 .have j:∀{t:Ty} {B:Bool->Prop},isD K M (.ref m) (.ty (Ym t)) B=B (tyLst t):=fun{t B}=>Y41 c
  have a:∀{t:Ty} {B:Bool->Prop},isD K M (.ref k) (.ty (Ym t)) B=B (tyLst t):=fun{t B}=>Y41 b
  delta V1 Wv
  rfl'
  simp only[a]
  rfl'
  delta Xl
  rfl'
  simp only[a]
  rfl'
  delta Ws
  rfl'
  simp only[a]
  rfl'
  delta S6
  rfl'
  simp only[j,a]
  rfl'
  delta Sg
  rfl'
  simp only[j,a]
  rfl'
  show Ft (own:= .two m k) g i h (fun F f=>Zg (Z1 c) f) (fun F f=>Zg (Z1 b) f) (fun F f=>⟨e,d,Z1 c,Z1 b,f⟩) ⟨e,d,Z1 c,Z1 b,rfl⟩ q
end
mutual
noncomputable def dT:T->Nat
 | .leaf _=>1
 | .home _ _ b=>dTs b+2
 | .cho _ _ _ y n=>max (dTs y) (dTs n)+2
noncomputable def dTs:List T->Nat
 | []=>0
 | t::a=>max (dT t) (dTs a)
end
theorem Opd.fN(o:Opd):fN o.d=true:=by cases o<;>rfl
def Yc5(l:Ln):AL M 1 l.d l.d:=by
 have e:∀f:LD,(∀x∈f,fN x=true)->AL M 1 (.tup f) (.tup f):=fun f h=> .inr (.inl ⟨f,f,rfl,rfl,rfl,fun i a b j g=>by
  rw[j] at g
  cases g
  show⟨rfl,h a (Ax j)⟩⟩)
 cases l with
 | cond a s b=>show e _ (by intro x c;simp only[An,Df,or_false] at c;rcases c with rfl | rfl | rfl | rfl<;>first | rfl | show Opd.fN _)
 | sum x a s b=>show e _ (by intro x c;simp only[An,Df,or_false] at c;rcases c with rfl | rfl | rfl | rfl | rfl<;>first | rfl | show Opd.fN _)
 | _=>show e _ (by intro x c;simp only[An,Df,or_false] at c;rcases c with rfl | rfl<;>rfl)
mutual
theorem al_T:∀{t:T} {d e:D},RT C M t d->RT N M t e->AL M (dT t) d e
 | .leaf l,d,e,h,g=>by
  let⟨rfl,_⟩:=h
  let⟨rfl,_⟩:=g
  show Yc5 l
 | .home r n b,d,e,h,g=>by
  let⟨c,J,rfl,_,p,k⟩:=h
  let⟨B,I,rfl,_,g1,g2⟩:=g
  have G:AL M (dTs b+1) (.ref c) (.ref B):= .inr (.inr ⟨c,B,J,I,rfl,rfl,p,g1,k.len.trans g2.len.symm,Zq7 k g2⟩)
  refine .inr (.inl ⟨_,_,rfl,rfl,rfl,fun i a b f j=>?_⟩)
  match i,f,j with
  | 0,f,j=>cases f;cases j;show AL.flat rfl
  | 1,f,j=>cases f;cases j;show AL.flat rfl
  | 2,f,j=>cases f;cases j;show G
  | n+3,f,_=>cases f
 | .cho x s z y n,d,e,h,g=>by
  let⟨A,w,L,K,rfl,_,_,p,k,H,v⟩:=h
  let⟨o,m,u,q,rfl,_,_,g1,g2,g3,g4⟩:=g
  have E:AL M (max (dTs y) (dTs n)+1) (.ref A) (.ref o):= .inr (.inr ⟨A,o,L,u,rfl,rfl,p,g1,k.len.trans g2.len.symm,fun i a b f j=>(Zq7 k g2 i a b f j).up (Nat.le_max_left _ _)⟩)
  have F:AL M (max (dTs y) (dTs n)+1) (.ref w) (.ref m):= .inr (.inr ⟨w,m,K,q,rfl,rfl,H,g3,v.len.trans g4.len.symm,fun i a b f j=>(Zq7 v g4 i a b f j).up (Nat.le_max_right _ _)⟩)
  refine .inr (.inl ⟨_,_,rfl,rfl,rfl,fun i a b f j=>?_⟩)
  match i,f,j with
  | 0,f,j=>cases f;cases j;show AL.flat rfl
  | 1,f,j=>cases f;cases j;show AL.flat (Opd.fN _)
  | 2,f,j=>cases f;cases j;show AL.flat rfl
  | 3,f,j=>cases f;cases j;show AL.flat (Opd.fN _)
  | 4,f,j=>cases f;cases j;show E
  | 5,f,j=>cases f;cases j;show F
  | n+6,f,_=>cases f
theorem Zq7{C l:Nat->Prop}:∀{us:List T} {ds es:LD},RTs C M us ds->RTs l M us es->∀(i:Nat) a b,ds[i]?=some a->es[i]?=some b->AL M (dTs us) a b
 | [],ds,es,h,g,i,a,b,c,f=>by cases h;cases c
 | t::us,ds,es,h,g,i,a,b,c,f=>by
  let⟨d,r,rfl,k,j⟩:=h
  let⟨e,m,rfl,g1,g2⟩:=g
  match i,c,f with
  | 0,c,f=>cases c;cases f;show(al_T k g1).up (Nat.le_max_left _ _)
  | i+1,c,f=>show(Zq7 j g2 i a b ↥c ↥f).up (Nat.le_max_right _ _)
end
theorem Fm.keep{m r:Nat}(F:Fm C M m us r)(k:Kp M M'):Fm C M' m us r:=by
 let⟨f,d,b⟩:=F.e
 show⟨⟨f,k.pW d,b.keep (fun _ h=>h) (k.cl fun c a=>(F.c c a).2)⟩,fun c a=>⟨(F.c c a).1,ni (F.c c a).2 k.len⟩,F.n⟩
def nums:LG->List Int
 | []=>[]
 | .rnd n::a=>n::nums a
 | .prt n::a=>n::nums a
 | _::a=>nums a
def Zw4(a b:LG):nums (a++b)=nums a++nums b:=by
 induction a with
 | nil=>rfl
 | cons l a c=>cases l<;>simp only[nums,Hx,c]
def Ln.wf:Ln->Prop
 | .cond a s b=>a.ok/\s∈two/\b.ok
 | .sum x a s b=>Nam x/\a.ok/\s∈six/\b.ok
 | .rnd n=>0<=n/\n<=9999
 | .prt n=>0<=n/\n<=9999
 | .lve n=>0<=n/\n<=9999
 | .agn n=>0<=n/\n<=9999
 | _=>True
def Ln.inn(a:List (Tp×Int)):Ln->Prop
 | .lve n=>(Tp.crd,n)∈a\/(Tp.cpt,n)∈a
 | .agn n=>(Tp.crd,n)∈a
 | _=>True
def Wk(m:Nat):List (Tp×Int)->LG->List (Tp×Int)->Prop
 | b,[],a=>a=b
 | b,l::d,a=>l.wf/\l.inn b/\∃c,nxt b l c/\c.length<=m/\Wk m c d a
def Wk.mono{m i:Nat}(j:m<=i):∀{ls:LG} {f g:List (Tp×Int)},Wk m f ls g->Wk i f ls g
 | [],f,g,h=>h
 | l::ls,f,g,zy19=>by
  let⟨a,b,t,c,d,e⟩:=zy19
  show⟨a,b,t,c,nj d j,e.mono j⟩
def Wk.run{m:Nat}:∀{ls:LG} {f g:List (Tp×Int)},Wk m f ls g->K52.run (tps f) ls=some (tps g)
 | [],f,g,h=>by cases h;rfl
 | l::ls,f,g,zy20=>by
  let⟨a,b,t,c,d,e⟩:=zy20
  show(stp (tps f) l).bind _=_
  rw[Ya2 c]
  show e.run
def Wk.all{m:Nat}:∀{ls:LG} {g i:List (Tp×Int)},Wk m g ls i->∀l∈ls,l.wf
 | [],g,i,h,l,f=>by cases f
 | m::ls,g,i,zy21,l,f=>by
  let⟨a,b,t,c,d,e⟩:=zy21
  rcases An.mp f with rfl | f
  .exact a
  .exact e.all l f
structure Gd(m:Nat)(ls:LG):Prop where
 w:Wk m [] ls []
 n:(nums ls).Nodup
def Iv(a:List (Tp×Int)):Prop:=∀x∈a,(x.1= .crd\/x.1= .cpt)/\0<=x.2/\x.2<=9999\/x.2= -1/\¬x.1= .crd
def Y03(f k:Nat):0<=hm f k/\hm f k<=9999:=by unfold hm;lia
def Iv.snoc{b:List (Tp×Int)}{x:Tp×Int}(h:Iv b)(c:(x.1= .crd\/x.1= .cpt)/\0<=x.2/\x.2<=9999\/x.2= -1/\¬x.1= .crd):Iv (b++[x]):=by
 intro y a
 rcases Az.mp a with a | a
 .exact h y a
 .rw[Am] at a;rw[a];show c
def Iv.init{a:List (Tp×Int)}{x:Tp×Int}(h:Iv (a++[x])):Iv a:=fun y b=>h y (Kw _ b)
def Dr.wk{f:Nat}:∀{ls:LG} {k:Nat} {b g:List (Tp×Int)},Iv b->Dr f k b ls g->Wk 60 b ls g
 | [],k,b,g,i,h=>h
 | l::ls,k,b,g,i,zy23=>by
  let⟨a,t,c,d,w⟩:=zy23
  cases l with
  | cond x s y=>cases (show t=_ from c);show⟨a,trivial,_,rfl,d,w.wk (i.snoc (.inr ⟨rfl,by simp⟩))⟩
  | rnd n=>cases (show t=_ from c);cases (show n=_ from a);show⟨Y03 f k,trivial,_,rfl,d,w.wk (i.snoc (.inl ⟨.inl rfl,Y03 f k⟩))⟩
  | prt n=>cases (show t=_ from c);cases (show n=_ from a);show⟨Y03 f k,trivial,_,rfl,d,w.wk (i.snoc (.inl ⟨.inr rfl,Y03 f k⟩))⟩
  | don=>let⟨x,rfl⟩:=c;show⟨trivial,trivial,t,⟨x,rfl⟩,d,w.wk i.init⟩
  | els=>let⟨o,n,rfl,rfl⟩:=c;show⟨trivial,trivial,_,⟨o,n,rfl,rfl⟩,d,w.wk (i.init.snoc (.inr ⟨rfl,by simp⟩))⟩
  | lve n=>
   cases (show t=_ from c)
   let⟨q,m,p⟩:=a
   rcases i _ m with⟨j,e⟩ | ⟨j,_⟩
   .refine⟨e,?_,_,rfl,d,w.wk i⟩
    rcases j with rfl | rfl
    .exact .inl m
    .exact .inr m
   .exact absurd p (by rw[show n= -1 from j];decide)
  | agn n=>
   cases (show t=_ from c)
   rcases i _ a with⟨_,e⟩ | ⟨_,e⟩
   .exact⟨e,a,_,rfl,d,w.wk i⟩
   .exact absurd rfl e
  | sum x y s z=>cases (show t=_ from c);show⟨a,trivial,_,rfl,d,w.wk i⟩
  | fin=>cases (show t=_ from c);show⟨trivial,trivial,_,rfl,d,w.wk i⟩
def Yq5{f i j:Nat}(hi:i<200)(a:j<200)(h:hm f i=hm f j):i=j:=by unfold hm at h;lia
def Dr.nd{f:Nat}:∀{ls:LG} {k:Nat} {i m:List (Tp×Int)},Dr f k i ls m->k+ls.length<=200->(nums ls).Nodup/\∀n∈nums ls,∃j,k<=j/\j<200/\n=hm f j
 | [],k,i,m,h,o=>⟨List.nodup_nil,fun n b=>by cases b⟩
 | l::ls,k,i,m,zy24,o=>by
  let⟨a,t,c,d,w⟩:=zy24
  rw[Ar] at o
  let⟨q,p⟩:=w.nd 'o'
  have e:(nums ls).Nodup/\∀n∈nums ls,∃j,k<=j/\j<200/\n=hm f j:=⟨q,fun n b=>by let⟨j,g1,g2,g3⟩:=p n b;show⟨j,'o',g2,g3⟩⟩
  have g:(hm f k::nums ls).Nodup/\∀n∈hm f k::nums ls,∃j,k<=j/\j<200/\n=hm f j:=by
   refine⟨Ko.mpr ⟨fun b=>?_,q⟩,fun n b=>?_⟩
   .let⟨j,g1,g2,g3⟩:=p _ b
    have:=Yq5 'o' g2 g3
    lia
   .rcases An.mp b with rfl | b
    .exact⟨k,nc _,'o',rfl⟩
    .exact e.2 n b
  cases l with
  | rnd n=>cases (show n=_ from a);show g
  | prt n=>cases (show n=_ from a);show g
  | _=>show e
def Dr.gd{f:Nat}(h:Dr f 0 [] ls [])(b:ls.length<=120):Gd 60 ls:=⟨h.wk (fun x a=>by cases a),(h.nd 'o').1⟩
inductive Lk where
 | yes | no | beh | agn | lve | hom | els | frm | don
 deriving DecidableEq
def Lk.s:Lk->Str
 | .yes=>"yes" | .no=>"no" | .beh=>"behind" | .agn=>"again" | .lve=>"leave" | .hom=>"home" | .els=>"else" | .frm=>"from" | .don=>"done"
def Lk.inj{a b:Lk}(h:a.s=b.s):a=b:=by
 revert h
 cases a<;>cases b<;>first | (intro _;rfl) | (intro h;show absurd h 'k')
abbrev Lb:=Lk×Int
def lbk(l:Lb):List Key:=[Dq l.1.s,Hn l.2]
def lbd(l:Lb):D:= .tup [.str l.1.s,.int l.2]
def Y94{a b:Lb}(h:lbk a=lbk b):a=b:=by
 unfold lbk at h
 rw[List.cons.injEq,List.cons.injEq] at h
 show Prod.ext (Lk.inj (Dq.inj h.1)) (Mg h.2.1)
inductive Pr where
 | sum (x:Str) (a:Opd) (s:Str) (b:Opd) | test (a:Opd) (s:Str) (b:Opd) (l:Lb) | jump (l:Lb) | fin
def Pr.d:Pr->D
 | .sum x a s b=> .tup [.str "sum",.str x,a.d,.str s,b.d]
 | .test a s b l=> .tup [.str "test",a.d,.str s,b.d,lbd l]
 | .jump l=> .tup [.str "jump",lbd l]
 | .fin=> .tup [.str "end"]
inductive Oe where
 | cho (n:Nat) | home (r:Bool) (n:Int)
def Oe.d:Oe->D
 | .cho n=> .tup [.str "choice",.int n]
 | .home r n=> .tup [.str (if r then "round" else "part"),.int n]
structure CS where
 t:List Pr
 f:Lb->Option Nat
 o:List Oe
def up(f:Lb->Option Nat)(l:Lb)(v:Nat):Lb->Option Nat:=fun m=>if m=l then some v else f m
def up0(f:Lb->Option Nat)(l:Lb)(v:Nat):Lb->Option Nat:=if (f l).isSome=true then f else up f l v
def cst(c:CS):Ln->Option CS
 | .cond a s b=>some ⟨c.t++[.test a s b (.yes,c.t.length)]++[.jump (.no,c.t.length)],up c.f (.yes,c.t.length) (c.t.length+2),.cho c.t.length::c.o⟩
 | .rnd n=>some ⟨c.t,up c.f (.agn,n) c.t.length,.home true n::c.o⟩
 | .prt n=>some ⟨c.t,up c.f (.agn,n) c.t.length,.home false n::c.o⟩
 | .els=>match c.o with
  | .cho n::r=>some ⟨c.t++[.jump (.beh,n)],up c.f (.no,n) (c.t.length+1),.cho n::r⟩
  | _=>none
 | .don=>match c.o with
  | .cho n::r=>some ⟨c.t,up (up0 c.f (.no,n) c.t.length) (.beh,n) c.t.length,r⟩
  | .home true n::r=>some ⟨c.t++[.jump (.agn,n)],up c.f (.lve,n) (c.t.length+1),r⟩
  | .home false n::r=>some ⟨c.t,up c.f (.lve,n) c.t.length,r⟩
  | []=>none
 | .lve n=>some ⟨c.t++[.jump (.lve,n)],c.f,c.o⟩
 | .agn n=>some ⟨c.t++[.jump (.agn,n)],c.f,c.o⟩
 | .sum x a s b=>some ⟨c.t++[.sum x a s b],c.f,c.o⟩
 | .fin=>some ⟨c.t++[.fin],c.f,c.o⟩
def crun:CS->LG->Option CS
 | c,[]=>some c
 | c,l::a=>(cst c l).bind fun b=>crun b a
def V0{f:Type}[DecidableEq f](m:List (f×D))(k j:f)(v:D):valD (putD m k v) j=if k=j then some v else valD m j:=by
 unfold putD
 split
 .rename_i h
  unfold valD
  induction m with
  | nil=>simp at h
  | cons p r i=>
   rw[De,Hl,Hl]
   by_cases d:p.1=k
   .rw[nh d]
    symm
    by_cases b:k=j
    .subst b;simp[d]
    .have:decide (p.1=j)=false:=by rw[decide_eq_false_iff_not,d];show b
     simp only[this]
     rw[ng b]
     symm
     by_cases e:(r.any fun a=>decide (a.1=k))=true
     .have:=i e;rw[ng b] at this;show this
     .have l:r.map (fun a=>if a.1=k then(a.1,v) else a)=r:=by
       rw[List.map_congr_left (g:=id)]
       .simp
       .intro a c
        rw[ng]
        symm
        .rfl
        .intro z;show e (Le.mpr ⟨a,c,↥z⟩)
      rw[l]
   .rw[ng d]
    symm
    have e:(r.any fun a=>decide (a.1=k))=true:=by simpa[d] using h
    by_cases b:p.1=j
    .have:¬k=j:=fun z=>d (b.trans z.symm)
     simp[b,this]
    .simp only[b,decide_false]
     show i e
 .rename_i h
  unfold valD
  rw[List.find?_append]
  by_cases b:k=j
  .subst b
   have:m.find? (fun a=>decide (a.1=k))=none:=by
    rw[List.find?_eq_none]
    intro a c z
    show h (Le.mpr ⟨a,c,z⟩)
   rw[this]
   simp
  .rw[ng b]
   symm
   simp[b]
def PM(kvs:List (List Key×D))(f:Lb->Option Nat):Prop:=∀l:Lb,valD kvs (lbk l)=(f l).map fun(n:Nat)=>D.int (n:Int)
def PM.put{f:Lb->Option Nat}(h:PM kvs f)(l:Lb)(v:Nat):PM (putD kvs (lbk l) (.int (v:Nat))) (up f l v):=by
 intro m
 rw[V0]
 unfold up
 by_cases e:m=l
 .subst e;rw[nh rfl,nh rfl];rfl
 .rw[ng (fun z=>e (Y94 z).symm),ng e];show h m
def Bq(m:List (List Key×D))(k:List Key)(v:D):(putD m k v).length<=m.length+1:=by
 unfold putD
 split
 .rw[Af];lia
 .rw[Ae,Ak];show nc _
structure St(tl pl:Nat)(t:List Pr)(f:Lb->Option Nat)(n:Nat)(M:Z2):Prop where
 w:Z4 M tl=some (t.map Pr.d)
 p:∃kvs,Zx M pl=some kvs/\PM kvs f/\kvs.length<=n
 l:t.length<=n
 b:n<=5000
abbrev F2(b pl:Nat):Nat->Prop:=fun a=>a=b\/a=pl
def Rv{n:Nat}(h:Zx M n=some xs):n<M.length:=by
 unfold Zx at h
 rcases Nat.lt_or_ge n M.length with l | l
 .exact l
 .rw[Dh l] at h
  cases h
def Tx{a:Nat}(h:M'[a]?=M[a]?):Zx M' a=Zx M a:=by unfold Zx;rw[h]
section
variable{tl pl n:Nat}{t:List Pr}{f:Lb->Option Nat}{M:Z2}
def St.ne(h:St tl pl t f n M):tl≠pl:=by
 rintro rfl
 let⟨d,a,_⟩:=h.p
 have b:=h.w
 unfold Zx at a
 unfold Z4 at b
 cases e:M[tl]? with
 | none=>rw[e] at a;cases a
 | some c=>
  rw[e] at a b
  cases c with
  | lst _=>cases a
  | _=>cases b
def St.add(h:St tl pl t f n M)(p:Pr)(b:n+1<=5000):St tl pl (t++[p]) f (n+1) (M.set tl (.lst (t.map Pr.d++[p.d])))/\Ks (F2 tl pl) M (M.set tl (.lst (t.map Pr.d++[p.d]))):=by
 let⟨a,e,c,g⟩:=h.p
 refine⟨⟨?_,⟨a,?_,c,'o'⟩,by rw[Ae,Ak];have:=h.l;lia,b⟩,(Ks.refl M).set (.inl (.inl rfl))⟩
 .rw[Zh (Zd (Z1 h.w)),Aw];rfl
 .rw[Tx (Yd h.ne)];show e
def St.put(h:St tl pl t f n M)(c:Zx M pl=some kvs)(b:PM kvs f)(d:kvs.length<=n)(l:Lb)(v:Nat)(a:n+1<=5000):St tl pl t (up f l v) (n+1) (M.set pl (.dcp (putD kvs (lbk l) (.int (v:Nat)))))/\Ks (F2 tl pl) M (M.set pl (.dcp (putD kvs (lbk l) (.int (v:Nat))))):=by
 refine⟨⟨?_,⟨_,?_,b.put l v,by have:=Bq kvs (lbk l) (.int (v:Nat));lia⟩,by have:=h.l;lia,a⟩,(Ks.refl M).set (.inl (.inr rfl))⟩
 .rw[Y2 (Yd (Au h.ne))];show h.w
 .unfold Zx;rw[Di (Rv c)]
def St.up(h:St tl pl t f n M){m:Nat}(e:n<=m)(b:m<=5000):St tl pl t f m M:=by
 let⟨a,d,c,g⟩:=h.p
 show⟨h.w,⟨a,d,c,'o'⟩,by have:=h.l;lia,b⟩
end
def Se:DSp:=fun j M Q _=>∃(l:Ln) (a b n:Nat) (c h:CS) (e:Oe),j=[l.g,.ref a,.ref b]/\l.beg=true/\St a b c.t c.f n M/\n+4<=5000/\cst c l=some h/\h.o=e::c.o/\∀i,Ks (F2 a b) M i->St a b h.t h.f (n+4) i->Q e.d i
def Wi:DSp:=fun i M Q _=>∃(a b n:Nat) (c g:CS) (e:Oe) (r:List Oe),i=[e.d,.ref a,.ref b]/\c.o=e::r/\St a b c.t c.f n M/\n+4<=5000/\cst c .els=some g/\∀h,Ks (F2 a b) M h->St a b g.t g.f (n+4) h->Q .non h
def Tl:DSp:=fun i M Q _=>∃(a b n:Nat) (c g:CS) (e:Oe) (r:List Oe),i=[e.d,.ref a,.ref b]/\c.o=e::r/\St a b c.t c.f n M/\n+4<=5000/\cst c .don=some g/\∀h,Ks (F2 a b) M h->St a b g.t g.f (n+4) h->Q .non h
section
variable{K:Ab}{Γ:List DSp}{G:LD}
def Fp:Rd K Γ G Se Sy R6:=by
 rintro ds M Q Z ⟨l,o,A,n,c,F,e,rfl,J,h,O,x,v,q⟩
 delta Sy R6
 have j:∀(b:Bool) (k:Int),F.t=c.t->F.f=up c.f (.agn,k) c.t.length->e= .home b k->∃i B,Zx M A=some i/\D.tup [.str "again",.int k]= .tup (List.map kD B)/\i.length<sizeLine/\Q e.d (M.set A (.dcp (putD i B (.int (c.t.map Pr.d).length)))):=by
  intro b k N L _
  let⟨i,u,z,y⟩:=h.p
  refine⟨i,lbk (.agn,k),u,rfl,Z3 'o',?_⟩
  let⟨m,r⟩:=h.put u z y (.agn,k) c.t.length 'o'
  rw[Af]
  refine q _ r ?_
  rw[N,L]
  show m.up 'o' 'o'
 cases l with
 | rnd k=>
  cases x
  cases v
  simp only[Ln.g,Ln.d]
  symm
  refine Zg (Z1 h.w) ⟨Z0 'd',.inr (.inr ?_)⟩
  show j true k rfl rfl rfl
 | prt k=>
  cases x
  cases v
  simp only[Ln.g,Ln.d]
  symm
  refine Zg (Z1 h.w) ⟨Z0 'd',.inr (.inr ?_)⟩
  show j false k rfl rfl rfl
 | cond a s b=>
  cases x
  cases v
  simp only[Ln.g]
  symm
  try delta Vb
  symm
  refine Zg (Z1 h.w) ?_
  rw[Af]
  symm
  rw[show U.cutD [D.str "choice",a.d,D.str s,b.d] (some 1) none=[a.d,.str s,b.d] from rfl]
  let⟨m,E⟩:=h.add (.test a s b (.yes,c.t.length)) 'o'
  refine⟨Z5 (Z1 h.w),Z0 'd','d',by simp,Z0 (by simp),Z0 'd',Z0 'd',by simp,Z0 (by simp),_,h.w,Z3 (by rw[Af];have:=h.l;lia),?_⟩
  rw[show(He M o (Cell.lst (c.t.map Pr.d++[D.tup (D.str "test"::([a.d,.str s,b.d]++[D.tup [D.str "yes",D.int c.t.length]]))])):Z2)=M.set o (.lst (c.t.map Pr.d++[(Pr.test a s b (.yes,c.t.length)).d])) from rfl]
  generalize M.set o (.lst (c.t.map Pr.d++[(Pr.test a s b (.yes,c.t.length)).d]))=M1 at m E
  symm
  let⟨r,C⟩:=m.add (.jump (.no,c.t.length)) 'o'
  refine⟨Z5 (Z1 m.w),Z0 'd',Z0 'd',_,m.w,Z3 (by rw[Af];have:=m.l;lia),?_⟩
  rw[show(He M1 o (Cell.lst ((c.t++[Pr.test a s b (.yes,c.t.length)]).map Pr.d++[D.tup [D.str "jump",D.tup [D.str "no",D.int c.t.length]]])):Z2)=M1.set o (.lst ((c.t++[Pr.test a s b (.yes,c.t.length)]).map Pr.d++[(Pr.jump (.no,c.t.length)).d])) from rfl]
  generalize M1.set o (.lst ((c.t++[Pr.test a s b (.yes,c.t.length)]).map Pr.d++[(Pr.jump (.no,c.t.length)).d]))=M2 at r C
  symm
  let⟨i,u,z,y⟩:=r.p
  let⟨H,I⟩:=r.put u z y (.yes,c.t.length) (c.t.length+2) 'o'
  refine Zg (Z1 r.w) ⟨Z0 'd',.inr (.inr ⟨i,lbk (.yes,c.t.length),u,rfl,Z3 'o',?_⟩)⟩
  rw[Af,show(c.t++[Pr.test a s b (.yes,c.t.length)]++[Pr.jump (.no,c.t.length)]).length=c.t.length+2 by simp]
  symm
  show⟨Z0 'd',q _ ((E.trans C).trans I) (H.up 'o' 'o')⟩
 | _=>cases J
def Z79:Rd K Γ G Wi Px Ps:=by
 rintro ds M Q Z ⟨c,z,n,⟨t,f,o⟩,B,e,r,rfl,v,h,A,j,q⟩
 cases v
 delta Px Ps
 cases e with
 | home b k=>cases j
 | cho k=>
  cases j
  simp only[Oe.d]
  symm
  let⟨a,i⟩:=h.add (.jump (.beh,k)) 'o'
  refine⟨Z5 (Z1 h.w),Z0 'd',Z0 'd',_,h.w,Z3 (by rw[Af];have:=h.l;lia),?_⟩
  rw[show(He M c (Cell.lst (t.map Pr.d++[D.tup [D.str "jump",D.tup [D.str "behind",D.int k]]])):Z2)=M.set c (.lst (t.map Pr.d++[(Pr.jump (.beh,(k:Int))).d])) from rfl]
  generalize M.set c (.lst (t.map Pr.d++[(Pr.jump (.beh,(k:Int))).d]))=M1 at a i
  symm
  let⟨g,m,y,x⟩:=a.p
  let⟨s,u⟩:=a.put m y x (.no,(k:Int)) (t.length+1) 'o'
  refine Zg (Z1 a.w) ⟨Z0 'd',.inr (.inr ⟨g,lbk (.no,(k:Int)),m,rfl,Z3 'o',?_⟩)⟩
  rw[Af,Ae,Ak]
  symm
  show q _ (i.trans u) (s.up 'o' 'o')
def Z64{a pl n:Nat}{t:List Pr}{f:Lb->Option Nat}{b:Bool}{k:Int}{l:Option D}(h:St a pl t f n M)(m:n+1<=5000)(q:∀M',Ks (F2 a pl) M M'->St a pl t (up f (.lve,k) t.length) (n+1) M'->Q .non M'):
  tss ⟨K,Γ,G⟩ noX Yo {nx:=fun _ M=>Q .non M,rt:=Q} [l,↑a,↑pl,some (.str (if b then "round" else "part")),some (.int k)] M:=by
 delta Yo
 symm
 refine⟨Z0 'd',rfl,rfl,?_⟩
 dsimp only
 rw[show inD (.str (if b then "round" else "part")) [.str "round",.str "part"]=true by cases b<;>decide+kernel,nh rfl]
 let⟨c,d,j,i⟩:=h.p
 let⟨e,g⟩:=h.put d j i (.lve,k) t.length 'o'
 refine Zg (Z1 h.w) ⟨Z0 'd',.inr (.inr ⟨c,lbk (.lve,k),d,rfl,Z3 'o',?_⟩)⟩
 rw[Af]
 symm
 show q _ g e
def Jv:Rd K Γ G Tl Vu Tg:=by
 rintro ds M Q Z ⟨i,y,n,⟨t,f,o⟩,P,e,r,rfl,L,h,O,B,q⟩
 cases L
 delta Vu Tg
 cases e with
 | home b k=>
  cases b with
  | true=>
   cases B
   simp only[Oe.d,if_true]
   symm
   try delta Y3
   symm
   let⟨g,j⟩:=h.add (.jump (.agn,k)) 'o'
   refine⟨Z5 (Z1 h.w),Z0 'd',Z0 'd',_,h.w,Z3 (by rw[Af];have:=h.l;lia),?_⟩
   rw[show(He M i (Cell.lst (t.map Pr.d++[D.tup [D.str "jump",D.tup [D.str "again",D.int k]]])):Z2)=M.set i (.lst (t.map Pr.d++[(Pr.jump (.agn,k)).d])) from rfl]
   generalize M.set i (.lst (t.map Pr.d++[(Pr.jump (.agn,k)).d]))=s at g j
   refine Qk ?_
   refine Qk ?_
   refine Z64 (b:=true) g 'o' fun J A x=>q _ (j.trans A) ?_
   rw[Ae,Ak] at x
   show x.up 'o' 'o'
  | false=>
   cases B
   simp only[Oe.d,Bool.false_eq_true,if_false]
   symm
   try delta Y3
   symm
   refine Z64 (b:=false) h 'o' fun J A x=>q _ A ?_
   show x.up 'o' 'o'
 | cho k=>
  cases B
  simp only[Oe.d]
  symm
  let⟨a,m,u,C⟩:=h.p
  have I:∀(s:Z2) (E:Lb->Option Nat),Ks (F2 i y) M s->St i y t E (n+1) s->E=up0 f (.no,(k:Int)) t.length->tss ⟨K,Γ,G⟩ noX (.cons (.put (.var 2) (.tup (.cons (.str "behind") (.cons (.var 4) .nil))) (.bf .len (.cons (.var 1) .nil))) .nil) {nx:=fun z N=>Rest ⟨K,Γ,G⟩ noX Y3 {nx:=fun _ M=>Q .non M,rt:=Q} z N,rt:=Q} [some (.tup [.str "choice",.int k]),↑i,↑y,some (.str "choice"),some (.int k)] s:=by
   rintro s E j g rfl
   symm
   let⟨a,m,u,C⟩:=g.p
   let⟨F,H⟩:=g.put m u C (.beh,(k:Int)) t.length 'o'
   refine Zg (Z1 g.w) ⟨Z0 'd',.inr (.inr ⟨a,lbk (.beh,(k:Int)),m,rfl,Z3 'o',?_⟩)⟩
   rw[Af]
   generalize s.set y (.dcp (putD a (lbk (.beh,(k:Int))) (.int t.length)))=J at F H
   symm
   try delta Y3
   symm
   try delta Yo
   symm
   refine⟨Z0 'd',rfl,rfl,?_⟩
   dsimp only
   rw[show inD (.str "choice") [.str "round",.str "part"]=false by decide+kernel,ng Bf9]
   symm
   show q _ (j.trans H) (F.up 'o' 'o')
  refine⟨by rw[m];rfl,Z0 'd',Zg (Z1 h.w) ⟨a,lbk (.no,(k:Int)),m,rfl,Z3 'o',fun d c=>?_,fun c=>?_⟩⟩
  .refine Qk (I M _ (Ks.refl M) (h.up 'o' 'o') ?_)
   unfold up0
   rw[nh]
   rw[u] at c
   dsimp only at c
   cases e:f (.no,(k:Int)) with
   | none=>rw[e] at c;cases c
   | some v=>rfl
  .let⟨g,j⟩:=h.put m u C (.no,(k:Int)) t.length 'o'
   rw[Af]
   refine Qk (I _ _ j g ?_)
   unfold up0
   rw[ng]
   rw[u] at c
   dsimp only at c
   cases e:f (.no,(k:Int)) with
   | none=>show Bf9
   | some v=>rw[e] at c;cases c
end
inductive Rw where
 | sum (k:Nat) (x:Str) (a:Opd) (sg:Str) (b:Opd) | test (k:Nat) (a:Opd) (sg:Str) (b:Opd) (g:Nat) | jump (k g:Nat) | fin (k:Nat)
def Rw.d:Rw->D
 | .sum k x a c b=> .tup [.int k,.str "sum",.str x,a.d,.str c,b.d]
 | .test k a c b g=> .tup [.int k,.str "test",a.d,.str c,b.d,.int g]
 | .jump k g=> .tup [.int k,.str "jump",.int g]
 | .fin k=> .tup [.int k,.str "end"]
inductive Raw where
 | sum (x:Str) (a:Opd) (sg:Str) (b:Opd) | test (a:Opd) (sg:Str) (b:Opd) (t:Nat) | jump (t:Nat) | fin
def Raw.l:Raw->LD
 | .sum x a c b=>[.str "sum",.str x,a.d,.str c,b.d]
 | .test a c b t=>[.str "test",a.d,.str c,b.d,.int (t:Nat)]
 | .jump t=>[.str "jump",.int (t:Nat)]
 | .fin=>[.str "end"]
def res(f:Lb->Option Nat):Pr->Option Raw
 | .sum x a s b=>some (.sum x a s b)
 | .test a s b l=>(f l).map (Raw.test a s b)
 | .jump l=>(f l).map Raw.jump
 | .fin=>some .fin
def Raw.rw(k:Nat):Raw->Rw
 | .sum x a c b=> .sum k x a c b
 | .test a c b t=> .test k a c b t
 | .jump t=> .jump k t
 | .fin=> .fin k
def Raw.rw_d(k:Nat)(r:Raw):(r.rw k).d= .tup (.int (k:Nat)::r.l):=by cases r<;>rfl
def Yp(a:List Raw):List Rw:=a.mapIdx fun k r=>r.rw k
def Y1(a:List Raw):(Yp a).length=a.length:=by unfold Yp;simp
def Yl{k:Nat}{a:List Raw}(h:a[k]?=some r):(Yp a)[k]?=some (r.rw k):=by unfold Yp;rw[Lv,h];rfl
def Z50:DSp:=fun c M Q _=>∃(p:Pr) (b:Nat) (a:List (List Key×D)) (f:Lb->Option Nat) (r:Raw),c=[p.d,.ref b]/\Zx M b=some a/\PM a f/\res f p=some r/\Q (.tup r.l) M
section
variable{K:Ab}{Γ:List DSp}{G:LD}
def Cf:Rd K Γ G Z50 Qo Qw:=by
 rintro ds M Q Z ⟨p,k,j,f,r,rfl,i,h,c,q⟩
 delta Qo Qw
 cases p with
 | sum x a s b=>
  cases c
  simp only[Pr.d]
  symm
  refine⟨Z0 'd',rfl,rfl,?_⟩
  dsimp only
  rw[show inD (.str "sum") [.str "test",.str "jump"]=false by decide+kernel,ng Bf9]
  try delta Xr
  symm
  show q
 | fin=>
  cases c
  simp only[Pr.d]
  symm
  refine⟨Z0 'd',rfl,rfl,?_⟩
  dsimp only
  rw[show inD (.str "end") [.str "test",.str "jump"]=false by decide+kernel,ng Bf9]
  try delta Xr
  symm
  show q
 | test a s b l=>
  let⟨g,e,rfl⟩:=Ch.mp (show(f l).map (Raw.test a s b)=some r from c)
  simp only[Pr.d]
  symm
  refine⟨Z0 'd',rfl,rfl,?_⟩
  dsimp only
  rw[show inD (.str "test") [.str "test",.str "jump"]=true by decide+kernel,nh rfl,show U.cutD [D.str "test",a.d,D.str s,b.d,lbd l] none (some (-1))=[.str "test",a.d,.str s,b.d] from rfl]
  refine⟨'d',_,rfl,ix_p (ks:=lbk l) i (by rw[h,e];rfl) ⟨Z0 'd',by simp,Z0 (by simp),q⟩⟩
 | jump l=>
  let⟨g,e,rfl⟩:=Ch.mp (show(f l).map Raw.jump=some r from c)
  simp only[Pr.d]
  symm
  refine⟨Z0 'd',rfl,rfl,?_⟩
  dsimp only
  rw[show inD (.str "jump") [.str "test",.str "jump"]=true by decide+kernel,nh rfl,show U.cutD [D.str "jump",lbd l] none (some (-1))=[.str "jump"] from rfl]
  refine⟨'d',_,rfl,ix_p (ks:=lbk l) i (by rw[h,e];rfl) ⟨Z0 'd',by simp,Z0 (by simp),q⟩⟩
end
def Opd.flat(o:Opd):Y0 o.d=true:=by cases o<;>rfl
def Yz(h k:Str)(xs:LD)(a:¬h=k):eqFs (.str h::xs) [.str k]=false:=by
 unfold eqFs
 rw[show min (D.str h::xs).length [D.str k].length=1 by simp]
 show((eqF (.str h) (.str k)&&true)&&_)=false
 have:eqF (.str h) (.str k)=false:=by show(h==k)=false;simpa using a
 rw[this]
 rfl
def Qx{x:D}(c:x= .tup xs\/x= .gtup xs)(b:xs.all Y0=true)(a:ys.all Y0=true)(q:B (eqFs xs ys)):eqD M x (.gtup ys) B:=by
 rcases c with rfl | rfl
 .exact .inr (.inr (.inr ⟨xs,ys,.inl rfl,.inr rfl,b,a,q⟩))
 .exact .inr (.inr (.inr ⟨xs,ys,.inr rfl,.inr rfl,b,a,q⟩))
def Nv{i:Nat}{d:D}(h:(C4 xs)[i]?=some d):∃x,xs[i]?=some x/\d= .tup [.int (i:Nat),x]:=by
 unfold C4 at h
 rw[Lv,Ch] at h
 let⟨x,a,rfl⟩:=h
 show⟨x,a,rfl⟩
def Jw(xs:LD):(C4 xs).length=xs.length:=by unfold C4;simp
def c0:CS:=⟨[],fun _=>none,[]⟩
def Rl:DSp:=fun i M Q _=>∃(C:Nat->Prop) (e:List T) (r:Nat) (b:LD) (c:CS) (a:List Raw),i=[.ref r]/\Z4 M r=some b/\RTs C M e b/\(∀c,C c->c<M.length)/\(fls e).length<=1000/\crun c0 (fls e)=some c/\(c.t++[Pr.fin]).map (res c.f)=a.map some/\
 ∀h g,Kp M h->Z4 h g=some ((Yp a).map Rw.d)->M.length<=g->Q (.ref g) h
structure Ro(M:Z2)(q:Nat)(ls:LG)(c:CS)(n:Nat)(M':Z2):Prop where
 k:Kp M M'
 s:St M.length (M.length+1) c.t c.f n M'
 o:Z4 M' (M.length+2)=some (c.o.reverse.map Oe.d)
 ol:c.o.length<=n
 q0:M.length+3<=q
 q:Z4 M' q=some (ls.map Ln.g)
section
variable{M M' M2:Z2}{q n m:Nat}{ls:LG}{c c':CS}
def Ro.ks(h:Ro M q ls c n M')(k:Ks (F2 M.length (M.length+1)) M' M2)(s:St M.length (M.length+1) c'.t c'.f m M2)(e:c'.o=c.o)(d:n<=m):Ro M q ls c' m M2:=by
 have b:=h.q0
 refine⟨⟨fun a _ l=>?_,nj h.k.len k.len⟩,s,?_,by rw[e];have:=h.ol;lia,b,?_⟩
 .have:=h.k.len
  rw[k.at' a (by rintro(z | z)<;>lia) 'o']
  show h.k.at' a (fun z=>z) l
 .rw[e,Y2 (k.at' (M.length+2) (by rintro(z | z)<;>lia) (Zd (Z1 h.o)))]
  show h.o
 .rw[Y2 (k.at' q (by rintro(z | z)<;>lia) (Zd (Z1 h.q)))]
  show h.q
def Ro.op(h:Ro M q ls c n M')(o:List Oe)(e:o.length<=n):Ro M q ls ⟨c.t,c.f,o⟩ n (M'.set (M.length+2) (.lst (o.reverse.map Oe.d))):=by
 have r:=h.q0
 let⟨a,j,i,g⟩:=h.s.p
 refine⟨h.k.set (.inr 'o'),⟨?_,⟨a,?_,i,g⟩,h.s.l,h.s.b⟩,Zh (Zd (Z1 h.o)),e,r,?_⟩
 .rw[Zb 'o'];show h.s.w
 .rw[Tx (Yd 'o')];show j
 .rw[Zb 'o'];show h.q
end
abbrev opn:LD:=[.str "choice",.str "round",.str "part"]
section
variable{K:Ab}{Γ:List DSp}{G:LD}
def Yf4(j:G[2]?=some (.gtup [.str "else"]))(u:G[3]?=some (.gtup [.str "done"]))(z:G[4]?=some (.gtup opn))(g4:Γ[4]?=some Se)(g5:Γ[5]?=some Wi)(g6:Γ[6]?=some Tl)
  {L n r:Nat} {c c':CS} {l:Ln} {P B:DEnv->Z2->Prop} (h:Ro M L ls c n M') (N:n+4<=5000) (i:cst c l=some c') (q:∀S,Ro M L ls c' (n+4) S->P [↑r,↑M.length,some (.ref (M.length+1)),some (.ref (M.length+2)),some l.g] S):
  tss ⟨K,Γ,G⟩ noX Vf {nx:=P,rt:=Q,bk:=B,ct:=P} [↑r,↑M.length,some (.ref (M.length+1)),some (.ref (M.length+2)),some l.g] M':=by
 have m:∀e,l.beg=true->c'.o=e::c.o->Se [l.g,.ref M.length,.ref (M.length+1)] M' (fun d F=>∃A,Z4 F (M.length+2)=some A/\A.length<sizeLine/\P [↑r,↑M.length,some (.ref (M.length+1)),some (.ref (M.length+2)),some l.g] (F.set (M.length+2) (.lst (A++[d])))) noX:=by
  intro e X y
  refine⟨l,_,_,n,c,c',e,rfl,X,h.s,N,i,y,fun F J I=>?_⟩
  have E:Ro M L ls ⟨c'.t,c'.f,c.o⟩ (n+4) F:=h.ks J I rfl 'o'
  refine⟨_,E.o,Z3 (by rw[Af,Ij];have:c.o.length<=n+4:=E.ol;change c.o.length<=_;lia),?_⟩
  have U:=E.op (e::c.o) (by have:=h.ol;rw[Ar];lia)
  have Y:Ro M L ls c' (n+4) (F.set (M.length+2) (.lst ((e::c.o).reverse.map Oe.d))):=by
   rw[<-y] at U ⊢
   show U
  rw[show(c.o.reverse.map Oe.d++[e.d]:LD)=(e::c.o).reverse.map Oe.d by simp]
  show q _ Y
 have v:∀p:Pr,c'=⟨c.t++[p],c.f,c.o⟩->(Z7 M' M.length).isSome=true/\∃A,Z4 M' M.length=some A/\A.length<sizeLine/\P [↑r,↑M.length,some (.ref (M.length+1)),some (.ref (M.length+2)),some l.g] (M'.set M.length (.lst (A++[p.d]))):=by
  rintro p rfl
  let⟨I,J⟩:=h.s.add p 'o'
  refine⟨Z5 (Z1 h.s.w),_,h.s.w,Z3 (by rw[Af];have:=h.s.l;lia),q _ (h.ks J (I.up 'o' 'o') rfl 'o')⟩
 delta Vf
 cases l with
 | cond a s b=>
  simp only[Ln.g]
  symm
  simp only[z]
  refine⟨rfl,rfl,?_⟩
  dsimp only
  rw[show inD (.str "choice") opn=true by decide+kernel,nh rfl]
  cases i
  show⟨Z5 (Z1 h.o),m _ rfl rfl⟩
 | rnd k=>
  simp only[Ln.g,Ln.d]
  symm
  simp only[z]
  refine⟨rfl,rfl,?_⟩
  dsimp only
  rw[show inD (.str "round") opn=true by decide+kernel,nh rfl]
  cases i
  show⟨Z5 (Z1 h.o),m _ rfl rfl⟩
 | prt k=>
  simp only[Ln.g,Ln.d]
  symm
  simp only[z]
  refine⟨rfl,rfl,?_⟩
  dsimp only
  rw[show inD (.str "part") opn=true by decide+kernel,nh rfl]
  cases i
  show⟨Z5 (Z1 h.o),m _ rfl rfl⟩
 | els=>
  simp only[Ln.g]
  symm
  simp only[j,z]
  refine⟨rfl,rfl,?_⟩
  dsimp only
  rw[show inD (.str "else") opn=false by decide+kernel,ng Bf9]
  symm
  refine Qx (.inr rfl) rfl rfl ?_
  rw[show eqFs [.str "else"] [.str "else"]=true by decide+kernel,nh rfl]
  symm
  cases y:c.o with
  | nil=>unfold cst at i;rw[y] at i;cases i
  | cons e H=>
   have C:atI (c.o.reverse.map Oe.d) (-1)=some e.d:=by rw[y];simp only[Ix,Aw,De,Iu];show Nr _ _
   refine Tf (Z1 h.o) C ⟨_,_,n,c,c',e,H,rfl,y,h.s,N,i,fun F J I=>q _ (h.ks J I ?_ 'o')⟩
   unfold cst at i
   rw[y] at i ⊢
   cases e with
   | cho k=>cases i;rfl
   | home b k=>cases i
 | don=>
  simp only[Ln.g]
  symm
  simp only[j,u,z]
  refine⟨rfl,rfl,?_⟩
  dsimp only
  rw[show inD (.str "done") opn=false by decide+kernel,ng Bf9]
  symm
  try simp only[j,u]
  refine Qx (.inr rfl) rfl rfl ?_
  rw[Yz _ _ _ 'k',ng Bf9]
  symm
  try simp only[j,u]
  refine Qx (.inr rfl) rfl rfl ?_
  rw[show eqFs [.str "done"] [.str "done"]=true by decide+kernel,nh rfl]
  symm
  cases y:c.o with
  | nil=>unfold cst at i;rw[y] at i;cases i
  | cons e H=>
   have T:c.o.reverse.map Oe.d=H.reverse.map Oe.d++[e.d]:=by rw[y];simp
   refine⟨Z5 (Z1 h.o),_,e.d,h.o,by rw[T];simp,?_⟩
   rw[T,List.dropLast_concat]
   have E:=h.op H (by have:=h.ol;rw[y,Ar] at this;lia)
   generalize M'.set (M.length+2) (.lst (H.reverse.map Oe.d))=F at E
   refine⟨_,_,n,c,c',e,H,rfl,y,E.s,N,i,fun S W V=>q _ (E.ks W V ?_ 'o')⟩
   unfold cst at i
   rw[y] at i
   cases e with
   | cho k=>cases i;rfl
   | home b k=>cases b<;>(cases i;rfl)
 | lve k=>
  simp only[Ln.g,Ln.d]
  symm
  simp only[j,u,z]
  refine⟨rfl,rfl,?_⟩
  dsimp only
  rw[show inD (.str "leave") opn=false by decide+kernel,ng Bf9]
  symm
  try simp only[j,u]
  refine Qx (.inl rfl) rfl rfl ?_
  rw[Yz _ _ _ 'k',ng Bf9]
  symm
  try simp only[j,u]
  refine Qx (.inl rfl) rfl rfl ?_
  rw[Yz _ _ _ 'k',ng Bf9]
  symm
  refine⟨Z0 'd',rfl,rfl,?_⟩
  dsimp only
  rw[show inD (.str "leave") [.str "leave",.str "again"]=true by decide+kernel,nh rfl]
  cases i
  let⟨R,O⟩:=v (.jump (.lve,k)) rfl
  show⟨R,Z0 'd',O⟩
 | agn k=>
  simp only[Ln.g,Ln.d]
  symm
  simp only[j,u,z]
  refine⟨rfl,rfl,?_⟩
  dsimp only
  rw[show inD (.str "again") opn=false by decide+kernel,ng Bf9]
  symm
  try simp only[j,u]
  refine Qx (.inl rfl) rfl rfl ?_
  rw[Yz _ _ _ 'k',ng Bf9]
  symm
  try simp only[j,u]
  refine Qx (.inl rfl) rfl rfl ?_
  rw[Yz _ _ _ 'k',ng Bf9]
  symm
  refine⟨Z0 'd',rfl,rfl,?_⟩
  dsimp only
  rw[show inD (.str "again") [.str "leave",.str "again"]=true by decide+kernel,nh rfl]
  cases i
  let⟨R,O⟩:=v (.jump (.agn,k)) rfl
  show⟨R,Z0 'd',O⟩
 | sum x a s b=>
  simp only[Ln.g,Ln.d]
  symm
  simp only[j,u,z]
  refine⟨rfl,rfl,?_⟩
  dsimp only
  rw[show inD (.str "sum") opn=false by decide+kernel,ng Bf9]
  symm
  try simp only[j,u]
  refine Qx (.inl rfl) (by show(true&&(true&&(Y0 a.d&&(true&&(Y0 b.d&&true)))))=true;rw[a.flat,b.flat];rfl) rfl ?_
  rw[Yz _ _ _ 'k',ng Bf9]
  symm
  try simp only[j,u]
  refine Qx (.inl rfl) (by show(true&&(true&&(Y0 a.d&&(true&&(Y0 b.d&&true)))))=true;rw[a.flat,b.flat];rfl) rfl ?_
  rw[Yz _ _ _ 'k',ng Bf9]
  symm
  refine⟨Z0 'd',rfl,rfl,?_⟩
  dsimp only
  rw[show inD (.str "sum") [.str "leave",.str "again"]=false by decide+kernel,ng Bf9]
  cases i
  show v (.sum x a s b) rfl
 | fin=>
  simp only[Ln.g,Ln.d]
  symm
  simp only[j,u,z]
  refine⟨rfl,rfl,?_⟩
  dsimp only
  rw[show inD (.str "end") opn=false by decide+kernel,ng Bf9]
  symm
  try simp only[j,u]
  refine Qx (.inl rfl) rfl rfl ?_
  rw[Yz _ _ _ 'k',ng Bf9]
  symm
  try simp only[j,u]
  refine Qx (.inl rfl) rfl rfl ?_
  rw[Yz _ _ _ 'k',ng Bf9]
  symm
  refine⟨Z0 'd',rfl,rfl,?_⟩
  dsimp only
  rw[show inD (.str "end") [.str "leave",.str "again"]=false by decide+kernel,ng Bf9]
  cases i
  show v .fin rfl
def Zd8(e2:G[2]?=some (.gtup [.str "else"]))(e3:G[3]?=some (.gtup [.str "done"]))(e4:G[4]?=some (.gtup opn))(g2:Γ[2]?=some Vx)(g3:Γ[3]?=some Z50)(g4:Γ[4]?=some Se)(g5:Γ[5]?=some Wi)(g6:Γ[6]?=some Tl):Rd K Γ G Rl Gn E4:=by
 rintro ds M Q Z ⟨C,v,r,u0,h,a,rfl,hr,rt,R,hz,x0,o,q⟩
 delta Gn E4
 symm
 refine⟨Z0 'd',?_⟩
 symm
 refine⟨Z0 'd',?_⟩
 symm
 have O:Kp M (M++[Cell.lst []]++[Cell.dcp []]++[Cell.lst []]):=((Ks.new M _).app _).app _
 refine⟨C,v,r,u0,rfl,O.pW hr,rt.keep (fun _ z=>z) (O.cl R),fun c hc=>ni (R c hc) O.len,hz,fun M2 r2 L F I=>?_⟩
 symm
 have l1:(M++[Cell.lst []]:Z2).length=M.length+1:=by simp
 have l2:(M++[Cell.lst []]++[Cell.dcp []]:Z2).length=M.length+2:=by simp
 have l3:(M++[Cell.lst []]++[Cell.dcp []]++[Cell.lst []]:Z2).length=M.length+3:=by simp
 rw[l1,l2]
 rw[l3] at I
 have A:Zx (M++[Cell.lst []]++[Cell.dcp []]++[Cell.lst []]) (M.length+1)=some []:=by
  unfold Zx
  rw[As,As,Dt 'o',Nat.add_sub_cancel_left]
  rfl
 have V:Ro M r2 (fls v) c0 0 M2:=by
  refine⟨(O.trans L),⟨L.pW ?_,⟨[],?_,fun l=>rfl,nc _⟩,nc _,'d'⟩,L.pW ?_,nc _,I,F⟩
  .rw[As,As];show Za _ _ _
  .rw[Tx (L.at' _ (fun z=>z) (Rv A))];show A
  .rw[<-l2];show Za _ _ []
 refine⟨_,Z1 F,?_⟩
 refine Vj (fun i n b=>∃(d:Option D) (c:CS),n=[↑r,↑M.length,some (.ref (M.length+1)),some (.ref (M.length+2)),d]/\Ro M r2 (fls v) c (4 * i) b/\crun c ((fls v).drop i)=some h) ⟨none,c0,rfl,V,x0⟩ ?_ ?_ ?_
 .rintro i n b _ ⟨d,c,rfl,m,_⟩
  show Z1 m.q
 .rintro i d n b P J ⟨d0,c,rfl,m,j⟩ hP
  obtain⟨l,y0,rfl⟩:∃l,(fls v)[i]?=some l/\d=l.g:=by
   rw[Ao] at J
   cases e:(fls v)[i]? with
   | none=>rw[e] at J;cases J
   | some l=>rw[e] at J;cases J;show⟨l,rfl,rfl⟩
  let⟨hi,z0⟩:=Ac.mp y0
  rw[Dz hi,z0] at j
  rw[tg_one]
  let⟨c',v0,w0⟩:=Ih.mp (show(cst c l).bind _=some h from j)
  refine Yf4 e2 e3 e4 g4 g5 g6 m 'o' v0 fun M3 U=>hP _ _ ⟨_,c',rfl,?_,w0⟩
  show U
 .rintro n b ⟨d,c,rfl,m,j⟩
  rw[Af,List.drop_length] at j
  cases j
  rw[Af] at m
  delta Ph
  symm
  let⟨x,k5⟩:=m.s.add .fin 'o'
  refine⟨Z5 (Z1 m.s.w),Z0 'd',_,m.s.w,Z3 (by rw[Af];have:=m.s.l;lia),?_⟩
  have W:Kp M (b.set M.length (.lst (h.t.map Pr.d++[Pr.fin.d]))):=m.k.set (.inr (nc _))
  rw[show(He b M.length (Cell.lst (h.t.map Pr.d++[D.tup [D.str "end"]])):Z2)=b.set M.length (.lst (h.t.map Pr.d++[Pr.fin.d])) from rfl]
  generalize b.set M.length (.lst (h.t.map Pr.d++[Pr.fin.d]))=M5 at x W
  clear k5
  symm
  refine⟨_,Z1 x.w,?_⟩
  simp only[capD,De,Iu,Option.bind_none,Option.bind_some,List.getElem?_cons_zero,List.getElem?_cons_succ,Option.join_some]
  have H:(h.t++[Pr.fin]).length=a.length:=by have:=congrArg Mh o;rwa[Af,Af] at this
  have t0:=x.l
  let⟨B,h1,h2,h3⟩:=x.p
  have rP:∀N,Zx (M5++N) (M.length+1)=some B:=fun N=>Zn0 h1
  have rT:∀N,Z7 (M5++N) M.length=some ((h.t++[Pr.fin]).map Pr.d):=fun N=>Ze (Z1 x.w)
  refine Ju (fun i n b=>∃T S,n=[T,S,some (.ref (M.length+1))]/\b=M5++[.lst (((Yp a).take i).map Rw.d)]) ⟨none,none,rfl,rfl⟩ ?_ ?_ ?_
  .rintro i n b _ ⟨T,S,rfl,rfl⟩
   show⟨_,rT _,rfl⟩
  .rintro i dx n b C hx ⟨T,S,rfl,rfl⟩ R
   let⟨y,X,rfl⟩:=Nv hx
   have hi:i< (h.t++[Pr.fin]).length:=by have:=(Ac.mp X).1;rwa[Af] at this
   obtain⟨p,hp⟩:∃p,(h.t++[Pr.fin])[i]?=some p:=⟨_,Ag hi⟩
   rw[Ao,hp] at X
   cases X
   obtain⟨u,E⟩:∃r,a[i]?=some r:=⟨_,Ag 'o'⟩
   have Y:res h.f p=some u:=by
    have:=congrArg (fun l=>l[i]?) o
    simp only[Ao,hp,E,Option.map_some] at this
    show Dg this
   symm
   refine⟨Z0 'd',p,_,B,h.f,u,rfl,rP _,h2,Y,?_⟩
   symm
   refine⟨by simp,Z0 (by cases u<;>simp[Raw.l]),_,Za _ _ [],Z3 (by rw[Af,Ke,Y1];lia),?_⟩
   rw[Xe]
   refine R _ _ ⟨_,_,rfl,?_⟩
   rw[Xa (Yl E),Aw,De,Iu,Raw.rw_d]
  .rintro n b ⟨T,S,rfl,rfl⟩
   rw[Jw,Af,H,<-Y1 a,Lg]
   symm
   show q _ _ (W.app _) (Za _ _ []) W.len
end
def skp:Ln->LG->Bool
 | .els,.don::_=>true
 | _,_=>false
def cl:LG->LG
 | []=>[]
 | l::a=>if skp l a then cl a else l::cl a
def stc(x:List Ln×Bool)(l:Ln):List Ln×Bool:=
 match l with
 | .els=>(if x.2 then x.1++[.els] else x.1,true)
 | .don=>(x.1++[.don],false)
 | l=>((if x.2 then x.1++[.els] else x.1)++[l],false)
def Y48:∀(ls:LG) (o:LG) (p:Bool),(ls.foldl stc (o,p)).2=false->(ls.foldl stc (o,p)).1=o++cl (if p then .els::ls else ls)
 | [],o,p,h=>by
  cases (show p=false from h)
  change o=o++[]
  rw[Du]
 | l::ls,o,p,h=>by
  have a:=Y48 ls (stc (o,p) l).1 (stc (o,p) l).2 h
  show(ls.foldl stc (stc (o,p) l)).1=_
  rw[show stc (o,p) l=((stc (o,p) l).1,(stc (o,p) l).2) from rfl,a]
  cases p<;>cases l<;>simp[stc,cl,skp]
def Y23{l:Ln}(h:l.pl=true)(a:l.beg=false)(x:List Ln×Bool):stc x l=((if x.2 then x.1++[.els] else x.1)++[l],false):=by cases l<;>first | rfl | (cases h;done) | (cases a;done)
def hdF(f:Fr):LG:=match f.h with
 | some l=>[l]
 | none=>[]
def f0(f:Fr):LG:=hdF f++match f.y,f.n with
 | none,n=>fls n
 | some y,[]=>fls y
 | some y,t::a=>fls y++ .els::fls (t::a)
def f1(f:Fr):LG:=hdF f++match f.y with
 | none=>fls f.n
 | some y=>fls y++ .els::fls f.n
def fb:List Fr->LG
 | []=>[]
 | f::r=>fb r++f1 f
def fa:List Fr->LG
 | []=>[]
 | f::r=>fb r++f0 f
def pnd:List Fr->Bool
 | []=>false
 | f::_=>f.y.isSome&&f.n.isEmpty
def Yw5(f:Fr):f1 f=if (f.y.isSome&&f.n.isEmpty)=true then f0 f++[.els] else f0 f:=by
 let⟨h,y,n⟩:=f
 cases y with
 | none=>rfl
 | some y=>
  cases n with
  | nil=>change hdF _++(fls y++ .els::fls [])=(hdF _++fls y)++[.els];rw[Sk,As]
  | cons t a=>rfl
def Ze1(h:Option Ln)(y:Option (List T))(n:List T)(t:T):f0 ⟨h,y,n++[t]⟩=f1 ⟨h,y,n⟩++fl t:=by
 cases y with
 | none=>
  change hdF _++fls (n++[t])=(hdF _++fls n)++fl t
  rw[Wb,Wz,Sk,Du,As]
  rfl
 | some y=>
  have e:f0 ⟨h,some y,n++[t]⟩=hdF ⟨h,some y,n⟩++(fls y++ .els::fls (n++[t])):=by cases n<;>rfl
  rw[e]
  change _=(hdF _++(fls y++ .els::fls n))++fl t
  rw[Wb,Wz,Sk,Du]
  simp
def Yx8{f:Fr}{t:Tp}(h:f.is t):fl f.mk'=f0 f++[.don]:=by
 let⟨e,y,n⟩:=f
 cases t with
 | cif=>
  let⟨rfl,a,s,b,rfl⟩:=h
  change fl (.cho a s b n [])=_
  rw[G8]
  rfl
 | cel=>
  let⟨d,a,s,b,rfl⟩:=h
  cases y with
  | none=>cases d
  | some y=>
   change fl (.cho a s b y n)=_
   cases n with
   | nil=>rw[G8];rfl
   | cons t c=>
    rw[Cq]
    change _=(.cond a s b::(fls y++ .els::fls (t::c)))++[.don]
    simp
 | crd=>
  let⟨rfl,k,rfl⟩:=h
  change fl (.home true k n)=_
  rw[J9]
  rfl
 | cpt=>
  let⟨rfl,k,rfl⟩:=h
  change fl (.home false k n)=_
  rw[J9]
  rfl
def Zt9{ts m:List Tp}{l:Ln}(h:Fss ts fs)(e:stp ts l=some m):stc (fa fs,pnd fs) l=(fa (nst fs l),pnd (nst fs l)):=by
 have d:∀f r,fs=f::r->(if pnd fs then fa fs++[.els] else fa fs)=fb r++f1 f:=by
  intro f r e
  rw[e,Yw5]
  show(if (f.y.isSome&&f.n.isEmpty)=true then(fb r++f0 f)++[.els] else fb r++f0 f)=_
  split<;>simp
 let⟨f,r,k,_⟩:=h.top
 have c:∀l:Ln,l.beg=true->stc (fa fs,pnd fs) l=(fa (nst fs l),pnd (nst fs l)):=by
  intro l q
  have B:stc (fa fs,pnd fs) l=((if pnd fs then fa fs++[.els] else fa fs)++[l],false):=by cases l<;>first | rfl | cases q
  rw[B,d f r k,Ln.nst_beg q,k]
  change _=((fb r++f1 f)++([l]++fls []),false)
  rw[Sk]
  simp
 have i:l.pl=true->l.beg=false->stc (fa fs,pnd fs) l=(fa (nst fs l),pnd (nst fs l)):=by
  intro v u
  have A:nst fs l=⟨f.h,f.y,f.n++[.leaf l]⟩::r:=by rw[k];cases l<;>first | rfl | (cases v;done) | (cases u;done)
  rw[Y23 v u,A]
  show((if pnd fs then fa fs++[.els] else fa fs)++[l],false)=(fb r++f0 ⟨f.h,f.y,f.n++[.leaf l]⟩,f.y.isSome&&(f.n++[T.leaf l]).isEmpty)
  rw[d f r k,Ze1,Zl6]
  simp
 cases l with
 | cond a s b=>show c _ rfl
 | rnd n=>show c _ rfl
 | prt n=>show c _ rfl
 | els=>
  let⟨C,rfl,rfl⟩:=Zi3 e
  let⟨j,w,rfl,⟨x,_⟩,_⟩:=h
  let⟨D,y,n⟩:=j
  cases (show y=none from x)
  rfl
 | don=>
  let⟨t,rfl⟩:=B9 e
  let⟨j,w,rfl,o,z⟩:=h
  let⟨g,p,rfl,_⟩:=z.top
  show((fb p++f1 g)++f0 j++[.don],false)=(fb p++f0 ⟨g.h,g.y,g.n++[j.mk']⟩,g.y.isSome&&(g.n++[j.mk']).isEmpty)
  rw[Ze1,Yx8 o]
  simp
 | _=>show i rfl rfl
def Yd0:∀{fs:List Fr} {ts a:List Tp},Fss ts fs->run ts ls=some a->ls.foldl stc (fa fs,pnd fs)=(fa (ls.foldl nst fs),pnd (ls.foldl nst fs)):=by
 induction ls with
 | nil=>intro fs ts a h e;rfl
 | cons l ls c=>
  intro fs ts a h e
  change (stp ts l).bind _=_ at e
  cases b:stp ts l with
  | none=>rw[b] at e;cases e
  | some t=>
   rw[b] at e
   change ls.foldl stc (stc (fa fs,pnd fs) l)=_
   rw[Zt9 h b]
   show c (h.step b) e
def Y99(h:run [] ls=some []):fls (nest ls)=cl ls:=by
 have a:=Yd0 (fs:=[fr0]) (ts:=[]) ⟨[],rfl⟩ h
 rw[Nq h] at a
 have b:=Y48 ls [] false (by rw[show(([]:LG),false)=(fa [fr0],pnd [fr0]) from rfl,a];rfl)
 rw[show(([]:LG),false)=(fa [fr0],pnd [fr0]) from rfl,a] at b
 show b
def mst(f:Lb->Option Nat)(s:LQ)(k:Nat):Ln->(Lb->Option Nat)×LQ
 | .cond _ _ _=>(f,k::s)
 | .rnd n=>(up f (.hom,n) k,k::s)
 | .prt n=>(up f (.hom,n) k,k::s)
 | .els=>(up (up f (.els,(s.headD 0:Nat)) k) (.frm,k) (s.headD 0),s)
 | .don=>(up (up f (.frm,k) (s.headD 0)) (.don,(s.headD 0:Nat)) k,s.tail)
 | _=>(f,s)
structure Q2 where
 f:Lb->Option Nat
 s:LQ
 c:CS
def q2s(q:Q2)(k:Nat)(l:Ln)(r:LG):Q2:=⟨(mst q.f q.s k l).1,(mst q.f q.s k l).2,if skp l r then q.c else(cst q.c l).getD q.c⟩
def q2(ls:LG):Nat->Q2
 | 0=>⟨fun _=>none,[],c0⟩
 | k+1=>match ls.drop k with
  | []=>q2 ls k
  | l::r=>q2s (q2 ls k) k l r
def ph(ls:LG)(k:Nat):Nat:=(q2 ls k).c.t.length
def Zt{k:Nat}{l:Ln}(h:ls[k]?=some l):q2 ls (k+1)=q2s (q2 ls k) k l (ls.drop (k+1)):=by
 let⟨a,e⟩:=Ac.mp h
 show(match ls.drop k with | []=>q2 ls k | l::r=>q2s (q2 ls k) k l r)=_
 rw[Dz a,e]
def Qa{k:Nat}(h:ls.length<=k):q2 ls (k+1)=q2 ls k:=by
 show(match ls.drop k with | []=>q2 ls k | l::r=>q2s (q2 ls k) k l r)=_
 rw[Ls h]
def Ex(f g:Lb->Option Nat):Prop:=∀k v,f k=some v->g k=some v
def Ex.up{f:Lb->Option Nat}{a:Lb}{v:Nat}(h:f a=none):Ex f (up f a v):=by
 intro k w e
 show(if k=a then some v else f k)=some w
 rw[ng (fun z=>by rw[z,h] at e;cases e)]
 show e
def Ex.up0{f:Lb->Option Nat}{a:Lb}{v:Nat}:Ex f (up0 f a v):=by
 unfold K52.up0
 split
 .exact fun k v e=>e
 .rename_i h
  refine Ex.up ?_
  cases e:f a with
  | none=>rfl
  | some v=>rw[e] at h;show absurd rfl h
def Ex.trans{f g h:Lb->Option Nat}(a:Ex f g)(b:Ex g h):Ex f h:=fun k v e=>b k v (a k v e)
def Xf(f:Lb->Option Nat)(a:Lb)(v:Nat):up f a v a=some v:=nh rfl
def W0{f:Lb->Option Nat}{a b:Lb}{v:Nat}(h:b≠a):up f a v b=f b:=ng h
def Fh{f:Lb->Option Nat}{a b:Lb}{v:Nat}(h:b≠a):up0 f a v b=f b:=by
 unfold up0
 split
 .rfl
 .exact W0 h
def Vr{a b:Lk}{i j:Int}(h:a≠b):((a,i):Lb)≠(b,j):=fun z=>h (Prod.mk.inj z).1
def Ge{a:Lk}{i j:Int}(h:i≠j):((a,i):Lb)≠(a,j):=fun z=>h (Prod.mk.inj z).2
def isC(ls:LG)(s:Nat):Prop:=∃a g b,ls[s]?=some (.cond a g b)
def Fk(ls:LG)(f cf:Lb->Option Nat)(k:Nat)(x:Tp×Int)(s:Nat)(e:Oe):Prop:=
 s<k/\f (.don,(s:Nat))=none/\(
  (∃b,e= .home b x.2/\ls[s]?=some (if b then .rnd x.2 else .prt x.2)/\f (.hom,x.2)=some s/\cf (.lve,x.2)=none/\x.1=if b then .crd else .cpt)\/
  (e= .cho (ph ls s)/\isC ls s/\cf (.beh,(ph ls s:Nat))=none/\
   ((x.1= .cif/\f (.els,(s:Nat))=none/\cf (.no,(ph ls s:Nat))=none)\/
    (x.1= .cel/\∃e',f (.els,(s:Nat))=some e'/\(cf (.no,(ph ls s:Nat))=some (ph ls (e'+1))\/(cf (.no,(ph ls s:Nat))=none/\ls[k]?=some .don/\k=e'+1))))))
def Als(P:Tp×Int->Nat->Oe->Prop):List (Tp×Int)->LQ->List Oe->Prop
 | [],[],[]=>True
 | x::a,s::b,e::c=>P x s e/\Als P a b c
 | _,_,_=>False
def Als.imp{P R:Tp×Int->Nat->Oe->Prop}:∀{xs:List (Tp×Int)} {c:LQ} {es:List Oe},Als P xs c es->(∀x s e,s∈c->P x s e->R x s e)->Als R xs c es
 | [],[],[],_,_=>trivial
 | x::xs,s::c,e::es,zy25,h=>by
  let⟨a,b⟩:=zy25
  show⟨h x s e Bs a,b.imp fun x s e m=>h x s e (Av _ m)⟩
def Als.top{P:Tp×Int->Nat->Oe->Prop}{x:Tp×Int}{b:LQ}(h:Als P (x::xs) b es):∃s a e c,b=s::a/\es=e::c/\P x s e/\Als P xs a c:=by
 match b,es,h with
 | s::b,e::es,h=>show⟨s,b,e,es,rfl,rfl,h.1,h.2⟩
def Als.mem{P:Tp×Int->Nat->Oe->Prop}:∀{xs:List (Tp×Int)} {d:LQ} {es:List Oe},Als P xs d es->∀x∈xs,∃s e,s∈d/\P x s e
 | [],_,_,_,y,c=>by cases c
 | x::xs,s::d,e::es,zy26,y,c=>by
  let⟨a,b⟩:=zy26
  rcases An.mp c with rfl | c
  .exact⟨s,e,Bs,a⟩
  .let⟨f,i,h,g⟩:=b.mem y c
   show⟨f,i,Av _ h,g⟩
def Als.at{P:Tp×Int->Nat->Oe->Prop}:∀{xs:List (Tp×Int)} {d:LQ} {es:List Oe},Als P xs d es->∀s∈d,∃x e,P x s e
 | _,[],_,_,t,c=>by cases c
 | x::xs,s::d,e::es,zy27,t,c=>by
  let⟨a,b⟩:=zy27
  rcases An.mp c with rfl | c
  .exact⟨x,e,a⟩
  .exact b.at t c
structure I2(ls:LG)(k:Nat)(xs:List (Tp×Int)):Prop where
 al:Als (Fk ls (q2 ls k).f (q2 ls k).c.f k) xs (q2 ls k).s (q2 ls k).c.o
 gt:(q2 ls k).s.Pairwise (· >·)
 op:∀(s:Nat) l,s<k->ls[s]?=some l->l.beg=true->s∈(q2 ls k).s\/∃j,(q2 ls k).f (.don,(s:Nat))=some j
 dn:∀(s:Nat) j,(q2 ls k).f (.don,(s:Nat))=some j->j<k/\ls[j]?=some .don/\(q2 ls j).s.head?=some s
 el:∀(s:Nat) e,(q2 ls k).f (.els,(s:Nat))=some e->e<k/\ls[e]?=some .els/\(q2 ls e).s.head?=some s
 fh:∀n∈nums (ls.drop k),(q2 ls k).f (.hom,n)=none/\(q2 ls k).c.f (.agn,n)=none/\(q2 ls k).c.f (.lve,n)=none
 ff:∀i:Nat,k<=i->(q2 ls k).f (.frm,i)=none/\(q2 ls k).f (.don,i)=none/\(q2 ls k).f (.els,i)=none
 fr:∀i:Nat,ph ls k<=i->(q2 ls k).c.f (.yes,i)=none/\(q2 ls k).c.f (.no,i)=none/\(q2 ls k).c.f (.beh,i)=none
def I2.zero(ls:LG):I2 ls 0 []:=⟨trivial,.nil,fun s l h=>absurd h (Nat.not_lt_zero _),fun _ _ h=>(by cases h),fun _ _ h=>(by cases h),fun _ _=>⟨rfl,rfl,rfl⟩,fun _ _=>⟨rfl,rfl,rfl⟩,fun _ _=>⟨rfl,rfl,rfl⟩⟩
def Yd2{c c':CS}{l:Ln}(h:cst c l=some c'):c.t<+:c'.t:=by
 cases l with
 | cond a s b=>cases h;show⟨[_,_],by rw[As];rfl⟩
 | rnd n=>cases h;show Iw
 | prt n=>cases h;show Iw
 | els=>
  let⟨t,f,o⟩:=c
  cases o with
  | nil=>cases h
  | cons e r=>
   cases e with
   | cho n=>cases h;show List.prefix_append _ _
   | home b n=>cases h
 | don=>
  let⟨t,f,o⟩:=c
  cases o with
  | nil=>cases h
  | cons e r=>
   cases e with
   | cho n=>cases h;show Iw
   | home b n=>
    cases b with
    | true=>cases h;show List.prefix_append _ _
    | false=>cases h;show Iw
 | _=>cases h;show List.prefix_append _ _
def Cw(ls:LG)(k:Nat):(q2 ls k).c.t<+:(q2 ls (k+1)).c.t:=by
 cases e:ls[k]? with
 | none=>rw[Qa (Dp.mp e)];show Iw
 | some l=>
  rw[Zt e]
  change _<+:(if skp l _ then(q2 ls k).c else(cst (q2 ls k).c l).getD (q2 ls k).c).t
  split
  .exact Iw
  .cases h:cst (q2 ls k).c l with
   | none=>show Iw
   | some a=>show Yd2 h
def Zl4(ls:LG){k m:Nat}(h:k<=m):(q2 ls k).c.t<+:(q2 ls m).c.t:=by
 induction h with
 | refl=>show Iw
 | step _ a=>show a.trans (Cw ls _)
def Jr(ls:LG){k m:Nat}(h:k<=m):ph ls k<=ph ls m:=(Zl4 ls h).length_le
def ph_C{s:Nat}(h:isC ls s):ph ls (s+1)=ph ls s+2:=by
 let⟨a,g,b,h⟩:=h
 unfold ph
 rw[Zt h]
 show(((q2 ls s).c.t++[_]++[_]:List Pr)).length=_
 simp
def Zb0{s t:Nat}(h:isC ls s)(a:s<t):ph ls s<ph ls t:=by
 have c:=ph_C h
 have b:=Jr ls (show s+1<=t from a)
 lia
def Fk.keep{f cf f' cf':Lb->Option Nat}{k:Nat}{x:Tp×Int}{s:Nat}(h:Fk ls f cf k x s e)(h1:f' (.don,(s:Nat))=f (.don,(s:Nat)))(h2:f' (.els,(s:Nat))=f (.els,(s:Nat)))(h3:f (.hom,x.2)=some s->f' (.hom,x.2)=some s)(h4:f (.hom,x.2)=some s->cf (.lve,x.2)=none->cf' (.lve,x.2)=none)
  (h5:isC ls s->cf' (.no,(ph ls s:Nat))=cf (.no,(ph ls s:Nat))/\cf' (.beh,(ph ls s:Nat))=cf (.beh,(ph ls s:Nat))) (h6:∀e',f (.els,(s:Nat))=some e'->ls[k]?=some .don->k=e'+1->False):Fk ls f' cf' (k+1) x s e:=by
 let⟨a1,a2,a3⟩:=h
 refine⟨'o',by rw[h1];show a2,?_⟩
 rcases a3 with⟨b,b1,b2,b3,b4,b5⟩ | ⟨c1,c2,c3,c4⟩
 .exact .inl ⟨b,b1,b2,h3 b3,h4 b3 b4,b5⟩
 .let⟨g1,g2⟩:=h5 c2
  refine .inr ⟨c1,c2,by rw[g2];show c3,?_⟩
  rw[g1,h2]
  rcases c4 with c4 | ⟨d1,e',d2,d3⟩
  .exact .inl c4
  .refine .inr ⟨d1,e',d2,?_⟩
   rcases d3 with d3 | ⟨d3,d4,d5⟩
   .exact .inl d3
   .exact(h6 e' d2 d4 d5).elim
def upn{f:Lb->Option Nat}{a b:Lk}{i j:Int}{v:Nat}(z:f (b,j)=w)(h:b≠a:=by decide):up f (a,i) v (b,j)=w:=(W0 (Vr h)).trans z
def undn{f:Lb->Option Nat}{a b:Lk}{i j:Int}{v:Nat}(z:up f (a,i) v (b,j)=w)(h:b≠a:=by decide):f (b,j)=w:=(W0 (Vr h)).symm.trans z
def upi{f:Lb->Option Nat}{a:Lk}{i j:Int}{v:Nat}(z:f (a,j)=w)(h:j≠i):up f (a,i) v (a,j)=w:=(W0 (Ge h)).trans z
structure Go(ls:LG)(k:Nat)(xs:List (Tp×Int)):Prop where
 i:I2 ls (k+1) xs
 f:Ex (q2 ls k).f (q2 ls (k+1)).f
 c:Ex (q2 ls k).c.f (q2 ls (k+1)).c.f
section
variable{ls:LG}{k:Nat}{xs:List (Tp×Int)}
def W7{l:Ln}(h:ls[k]?=some l):ls.drop k=l::ls.drop (k+1):=by
 let⟨a,e⟩:=Ac.mp h
 rw[Dz a,e]
def I2.leaf(I:I2 ls k xs){l:Ln}{p:Pr}(h:ls[k]?=some l)(v:l.beg=false)(u:l≠ .don)(m:q2 ls (k+1)=⟨(q2 ls k).f,(q2 ls k).s,⟨(q2 ls k).c.t++[p],(q2 ls k).c.f,(q2 ls k).c.o⟩⟩)(y:nums (ls.drop k)=nums (ls.drop (k+1))):Go ls k xs:=by
 have A:ph ls (k+1)=ph ls k+1:=by unfold ph;rw[m];simp
 refine⟨⟨?_,?_,?_,?_,?_,?_,?_,?_⟩,?_,?_⟩<;>(rw[m];try dsimp only)
 .exact I.al.imp fun x s e _ w=>w.keep rfl rfl id (fun _ z=>z) (fun _=>⟨rfl,rfl⟩) fun _ _ z _=>by rw[h] at z;cases z;show u rfl
 .exact I.gt
 .intro s n q g d
  rcases Nat.lt_succ_iff_lt_or_eq.mp q with z | rfl
  .exact I.op s n z g d
  .rw[h] at g;cases g;rw[v] at d;cases d
 .intro s j z;let⟨a,b⟩:=I.dn s j z;show⟨'o',b⟩
 .intro s j z;let⟨a,b⟩:=I.el s j z;show⟨'o',b⟩
 .rw[<-y];show I.fh
 .intro i r;show I.ff i 'o'
 .intro i r;show I.fr i 'o'
 .exact fun _ _ z=>z
 .exact fun _ _ z=>z
def I2.cond(I:I2 ls k xs){a:Opd}{g:Str}{b:Opd}(h:ls[k]?=some (.cond a g b)):Go ls k ((.cif,-1)::xs):=by
 have e1:q2 ls (k+1)=⟨(q2 ls k).f,k::(q2 ls k).s,⟨(q2 ls k).c.t++[.test a g b (.yes,(ph ls k:Nat))]++[.jump (.no,(ph ls k:Nat))],up (q2 ls k).c.f (.yes,(ph ls k:Nat)) (ph ls k+2),.cho (ph ls k)::(q2 ls k).c.o⟩⟩:=by rw[Zt h];rfl
 have hp:ph ls (k+1)=ph ls k+2:=ph_C ⟨a,g,b,h⟩
 have hr:=I.fr (ph ls k) (nc _)
 have hf:=I.ff k (nc _)
 refine⟨⟨?_,?_,?_,?_,?_,?_,?_,?_⟩,?_,?_⟩<;>(rw[e1];try dsimp only)
 .refine⟨⟨'o',hf.2.1,.inr ⟨rfl,⟨a,g,b,h⟩,?_,.inl ⟨rfl,hf.2.2,?_⟩⟩⟩,I.al.imp fun x s e _ hF=>hF.keep rfl rfl id (fun _ z=>?_) (fun _=>⟨?_,?_⟩) fun _ _ z _=>by rw[h] at z;cases z⟩
  .exact upn hr.2.2
  .exact upn hr.2.1
  .exact upn z
  .exact upn rfl
  .exact upn rfl
 .exact List.pairwise_cons.mpr ⟨fun s hs=>by let⟨x,e,hF⟩:=I.al.at s hs;show hF.1,I.gt⟩
 .intro s l' hs hl hbg
  rcases Nat.lt_succ_iff_lt_or_eq.mp hs with z | rfl
  .exact(I.op s l' z hl hbg).imp (Av _) id
  .exact .inl Bs
 .intro s j z;let⟨a,b⟩:=I.dn s j z;show⟨'o',b⟩
 .intro s j z;let⟨a,b⟩:=I.el s j z;show⟨'o',b⟩
 .intro n hn
  have:=I.fh n (by rw[W7 h];show hn)
  show⟨this.1,upn this.2.1,upn this.2.2⟩
 .intro i hi;show I.ff i 'o'
 .intro i hi
  have:=I.fr i 'o'
  show⟨upi this.1 'o',upn this.2.1,upn this.2.2⟩
 .exact fun _ _ z=>z
 .exact Ex.up hr.1
def I2.home(I:I2 ls k xs)(b:Bool){n:Int}(h:ls[k]?=some (if b then .rnd n else .prt n))(r:(nums (ls.drop k)).Nodup):Go ls k (((if b then .crd else .cpt),n)::xs):=by
 have w:q2 ls (k+1)=⟨up (q2 ls k).f (.hom,n) k,k::(q2 ls k).s,⟨(q2 ls k).c.t,up (q2 ls k).c.f (.agn,n) (ph ls k),.home b n::(q2 ls k).c.o⟩⟩:=by rw[Zt h];cases b<;>rfl
 have q:nums (ls.drop k)=n::nums (ls.drop (k+1)):=by rw[W7 h];cases b<;>rfl
 have E:ph ls (k+1)=ph ls k:=by unfold ph;rw[w]
 have d:=I.fh n (by rw[q];show Bs)
 have D:=I.ff k (nc _)
 have y:¬n∈nums (ls.drop (k+1)):=by rw[q] at r;show(Ko.mp r).1
 refine⟨⟨?_,?_,?_,?_,?_,?_,?_,?_⟩,?_,?_⟩<;>(rw[w];try dsimp only)
 .refine⟨⟨'o',upn D.2.1,.inl ⟨b,rfl,h,Xf _ _ _,upn d.2.2,rfl⟩⟩,I.al.imp fun x s e _ p=>p.keep (upn rfl) (upn rfl) (fun z=>Ex.up d.1 _ _ z) (fun _ z=>upn z) (fun _=>⟨upn rfl,upn rfl⟩) fun _ _ z _=>by rw[h] at z;cases b<;>cases z⟩
 .exact List.pairwise_cons.mpr ⟨fun s g=>by let⟨x,e,p⟩:=I.al.at s g;show p.1,I.gt⟩
 .intro s A g B l
  rcases Nat.lt_succ_iff_lt_or_eq.mp g with z | rfl
  .exact(I.op s A z B l).imp (Av _) fun zz137=>by let⟨j,e⟩:=zz137;show⟨j,upn e⟩
  .exact .inl Bs
 .intro s j z;let⟨a,b⟩:=I.dn s j (undn z);show⟨'o',b⟩
 .intro s j z;let⟨a,b⟩:=I.el s j (undn z);show⟨'o',b⟩
 .intro m v
  have:=I.fh m (by rw[q];show Av _ v)
  have u:m≠n:=fun z=>y (z ▸ v)
  show⟨upi this.1 u,upi this.2.1 u,upn this.2.2⟩
 .intro i C
  have:=I.ff i 'o'
  show⟨upn this.1,upn this.2.1,upn this.2.2⟩
 .intro i C
  have:=I.fr i 'o'
  show⟨upn this.1,upn this.2.1,upn this.2.2⟩
 .exact Ex.up d.1
 .exact Ex.up d.2.1
end
section
variable{ls:LG}{k:Nat}{xs:List (Tp×Int)}
def Yn1{r:LG}(h:skp .els r=true):r[0]?=some .don:=by
 cases r with
 | nil=>cases h
 | cons l r=>cases l<;>first | rfl | cases h
def I2.els{m:Int}(I:I2 ls k ((.cif,m)::xs))(h:ls[k]?=some .els):Go ls k ((.cel,-1)::xs)/\(skp .els (ls.drop (k+1))=false->cst (q2 ls k).c .els=some (q2 ls (k+1)).c)/\
  ∃s,(q2 ls k).s.head?=some s/\isC ls s/\(q2 ls (k+1)).f (.els,(s:Nat))=some k/\(q2 ls (k+1)).f (.frm,(k:Nat))=some s/\((ls[k+1]?=some .don/\ph ls (k+1)=ph ls k)\/((q2 ls (k+1)).c.t=(q2 ls k).c.t++[.jump (.beh,(ph ls s:Nat))])):=by
 let⟨s,ss,e,es,q1,q3,F,al⟩:=I.al.top
 have gt:=I.gt
 rw[q1] at gt
 let⟨gt1,gt2⟩:=List.pairwise_cons.mp gt
 let⟨F1,F2,F3⟩:=F
 obtain⟨rfl,hC,F5,F6,F7⟩:e= .cho (ph ls s)/\isC ls s/\(q2 ls k).c.f (.beh,(ph ls s:Nat))=none/\(q2 ls k).f (.els,(s:Nat))=none/\(q2 ls k).c.f (.no,(ph ls s:Nat))=none:=by
  rcases F3 with⟨b,_,_,_,_,z⟩ | ⟨a,b,c,d⟩
  .cases b<;>cases z
  .rcases d with⟨_,d⟩ | ⟨z,_⟩
   .exact⟨a,b,c,d⟩
   .cases z
 have hf:=I.ff k (nc _)
 have e0:(mst (q2 ls k).f (q2 ls k).s k .els)=(up (up (q2 ls k).f (.els,(s:Nat)) k) (.frm,(k:Nat)) s,s::ss):=by rw[q1];rfl
 have fe:Ex (q2 ls k).f (up (up (q2 ls k).f (.els,(s:Nat)) k) (.frm,(k:Nat)) s):=(Ex.up F6).trans (Ex.up (upn hf.1))
 obtain⟨c',e1,co,cn,ci,cx,ct,cs,cj⟩:∃c':CS,q2 ls (k+1)=⟨up (up (q2 ls k).f (.els,(s:Nat)) k) (.frm,(k:Nat)) s,s::ss,c'⟩/\c'.o= .cho (ph ls s)::es/\(∀a i,a≠Lk.no->c'.f (a,i)=(q2 ls k).c.f (a,i))/\(∀i:Int,i≠(ph ls s:Nat)->c'.f (.no,i)=(q2 ls k).c.f (.no,i))/\Ex (q2 ls k).c.f c'.f/\(c'.f (.no,(ph ls s:Nat))=some c'.t.length\/(c'.f (.no,(ph ls s:Nat))=none/\ls[k+1]?=some .don/\k+1=k+1))/\(skp .els (ls.drop (k+1))=false->cst (q2 ls k).c .els=some c')/\((ls[k+1]?=some .don/\c'.t=(q2 ls k).c.t)\/c'.t=(q2 ls k).c.t++[.jump (.beh,(ph ls s:Nat))]):=by
  cases hk:skp .els (ls.drop (k+1)) with
  | true=>
   have hd:ls[k+1]?=some .don:=by have:=Yn1 hk;rwa[List.getElem?_drop] at this
   show⟨(q2 ls k).c,by rw[Zt h];unfold q2s;rw[e0,hk];rfl,q3,fun _ _ _=>rfl,fun _ _=>rfl,fun _ _ z=>z,.inr ⟨F7,hd,rfl⟩,fun z=>(by cases z),.inl ⟨hd,rfl⟩⟩
  | false=>
   have ec:cst (q2 ls k).c .els=some ⟨(q2 ls k).c.t++[.jump (.beh,(ph ls s:Nat))],up (q2 ls k).c.f (.no,(ph ls s:Nat)) ((q2 ls k).c.t.length+1),.cho (ph ls s)::es⟩:=by
    unfold cst
    rw[q3]
   refine⟨_,by rw[Zt h];unfold q2s;rw[e0,hk,ec];rfl,rfl,fun a i z=>W0 (Vr z),fun i z=>W0 (Ge z),Ex.up F7,.inl ?_,fun _=>ec,.inr rfl⟩
   rw[Ae]
   show Xf _ _ _
 have hp:ph ls (k+1)=c'.t.length:=by unfold ph;rw[e1]
 have hm:=Jr ls (show k<=k+1 from mh k)
 refine⟨⟨⟨?_,?_,?_,?_,?_,?_,?_,?_⟩,?_,?_⟩,?_,s,by rw[q1];rfl,hC,?_,?_,?_⟩<;>(rw[e1];try dsimp only)
 .rw[co]
  refine⟨⟨'o',upn (upn F2),.inr ⟨rfl,hC,(cn _ _ 'd').trans F5,.inr ⟨rfl,k,upn (Xf _ _ _),?_⟩⟩⟩,al.imp fun x t e ht hF=>hF.keep (upn (upn rfl)) (upn (upi rfl (by have:=gt1 t ht;lia))) (fun z=>fe _ _ z) (fun _ z=>(cn _ _ 'd').trans z) (fun hc=>⟨ci _ (by have:=Zb0 hc (gt1 t ht);lia),cn _ _ 'd'⟩) fun _ _ z _=>by rw[h] at z;cases z⟩
  rw[hp]
  show ct
 .exact gt
 .intro t l' ht hl hbg
  rcases Nat.lt_succ_iff_lt_or_eq.mp ht with z | rfl
  .rw[<-q1];show(I.op t l' z hl hbg).imp id fun zz138=>by let⟨j,e⟩:=zz138;show⟨j,fe _ _ e⟩
  .rw[h] at hl;cases hl;cases hbg
 .intro t j z;let⟨a,b⟩:=I.dn t j (undn (undn z));show⟨'o',b⟩
 .intro t j z
  have z1:=undn z
  by_cases hts:t=s
  .subst hts
   rw[Xf] at z1
   cases z1
   show⟨'o',h,by rw[q1];rfl⟩
  .let⟨a,b⟩:=I.el t j ((W0 (Ge 'o')).symm.trans z1)
   show⟨'o',b⟩
 .intro n hn
  have:=I.fh n (by rw[W7 h];show hn)
  show⟨upn (upn this.1),(cn _ _ 'd').trans this.2.1,(cn _ _ 'd').trans this.2.2⟩
 .intro i hi
  have:=I.ff i 'o'
  show⟨upi (upn this.1) 'o',upn (upn this.2.1),upn (upi this.2.2 'o')⟩
 .intro i hi
  have:=I.fr i 'o'
  have h2:=Zb0 hC F1
  show⟨(cn _ _ 'd').trans this.1,(ci _ 'o').trans this.2.1,(cn _ _ 'd').trans this.2.2⟩
 .exact fe
 .exact cx
 .exact cs
 .exact upn (Xf _ _ _)
 .exact Xf _ _ _
 .rw[hp]
  rcases cj with⟨a,b⟩ | a
  .exact .inl ⟨a,by rw[b];rfl⟩
  .exact .inr a
def Cl(ls:LG)(s j:Nat)(f cf:Lb->Option Nat):Prop:=
 s<j/\f (.don,(s:Nat))=some j/\f (.frm,(j:Nat))=some s/\(
  (∃(b:Bool) (n:Int),ls[s]?=some (if b then .rnd n else .prt n)/\f (.hom,n)=some s/\cf (.lve,n)=some (ph ls (j+1))/\(if b then(q2 ls (j+1)).c.t=(q2 ls j).c.t++[.jump (.agn,n)] else ph ls (j+1)=ph ls j))\/
  (isC ls s/\ph ls (j+1)=ph ls j/\cf (.beh,(ph ls s:Nat))=some (ph ls j)/\((f (.els,(s:Nat))=none/\cf (.no,(ph ls s:Nat))=some (ph ls j))\/∃e,f (.els,(s:Nat))=some e/\cf (.no,(ph ls s:Nat))=some (ph ls (e+1)))))
def I2.don{x:Tp×Int}(I:I2 ls k (x::xs))(h:ls[k]?=some .don):Go ls k xs/\cst (q2 ls k).c .don=some (q2 ls (k+1)).c/\∃s,(q2 ls k).s.head?=some s/\Cl ls s k (q2 ls (k+1)).f (q2 ls (k+1)).c.f:=by
 let⟨s,ss,e,es,q1,q3,F,al⟩:=I.al.top
 have gt:=I.gt
 rw[q1] at gt
 let⟨gt1,gt2⟩:=List.pairwise_cons.mp gt
 let⟨F1,F2,F3⟩:=F
 have hf:=I.ff k (nc _)
 have e0:(mst (q2 ls k).f (q2 ls k).s k .don)=(up (up (q2 ls k).f (.frm,(k:Nat)) s) (.don,(s:Nat)) k,ss):=by rw[q1];rfl
 have fe:Ex (q2 ls k).f (up (up (q2 ls k).f (.frm,(k:Nat)) s) (.don,(s:Nat)) k):=(Ex.up hf.1).trans (Ex.up (upn F2))
 obtain⟨t',f',ec,ca,cl,cn,cb,cx,cc⟩:∃(t':List Pr) (f':Lb->Option Nat),cst (q2 ls k).c .don=some ⟨t',f',es⟩/\(∀a i,a≠Lk.lve->a≠ .no->a≠ .beh->f' (a,i)=(q2 ls k).c.f (a,i))/\(∀n,(q2 ls k).f (.hom,n)≠some s->f' (.lve,n)=(q2 ls k).c.f (.lve,n))/\(∀i:Int,(isC ls s->i≠(ph ls s:Nat))->f' (.no,i)=(q2 ls k).c.f (.no,i))/\(∀i:Int,(isC ls s->i≠(ph ls s:Nat))->f' (.beh,i)=(q2 ls k).c.f (.beh,i))/\Ex (q2 ls k).c.f f'/\
   (q2 ls (k+1)=⟨up (up (q2 ls k).f (.frm,(k:Nat)) s) (.don,(s:Nat)) k,ss,⟨t',f',es⟩⟩->Cl ls s k (q2 ls (k+1)).f (q2 ls (k+1)).c.f):=by
  rcases F3 with⟨b,rfl,b2,b3,b4,b5⟩ | ⟨rfl,hC,d3,d4⟩
  .have nC:¬isC ls s:=by rintro⟨_,_,_,z⟩;rw[b2] at z;cases b<;>cases z
   cases b with
   | true=>
    refine⟨(q2 ls k).c.t++[.jump (.agn,x.2)],up (q2 ls k).c.f (.lve,x.2) ((q2 ls k).c.t.length+1),by unfold cst;rw[q3],fun a i z _ _=>W0 (Vr z),fun n z=>W0 (Ge fun z'=>z (z' ▸ b3)),fun i _=>upn rfl,fun i _=>upn rfl,Ex.up b4,fun e1=>?_⟩
    unfold Cl ph
    rw[e1]
    dsimp only
    show⟨F1,Xf _ _ _,upn (Xf _ _ _),.inl ⟨true,x.2,b2,upn (upn b3),by rw[Xf];simp,rfl⟩⟩
   | false=>
    refine⟨(q2 ls k).c.t,up (q2 ls k).c.f (.lve,x.2) (q2 ls k).c.t.length,by unfold cst;rw[q3],fun a i z _ _=>W0 (Vr z),fun n z=>W0 (Ge fun z'=>z (z' ▸ b3)),fun i _=>upn rfl,fun i _=>upn rfl,Ex.up b4,fun e1=>?_⟩
    unfold Cl ph
    rw[e1]
    dsimp only
    show⟨F1,Xf _ _ _,upn (Xf _ _ _),.inl ⟨false,x.2,b2,upn (upn b3),Xf _ _ _,rfl⟩⟩
  .refine⟨(q2 ls k).c.t,up (up0 (q2 ls k).c.f (.no,(ph ls s:Nat)) (q2 ls k).c.t.length) (.beh,(ph ls s:Nat)) (q2 ls k).c.t.length,by unfold cst;rw[q3],fun a i _ z1 z2=>(W0 (Vr z2)).trans (Fh (Vr z1)),fun n _=>(W0 (Vr 'd')).trans (Fh (Vr 'd')),fun i z=>(W0 (Vr 'd')).trans (Fh (Ge (z hC))),fun i z=>(W0 (Ge (z hC))).trans (Fh (Vr 'd')),Ex.up0.trans (Ex.up ((Fh (Vr 'd')).trans d3)),fun e1=>?_⟩
   have hp:ph ls (k+1)=ph ls k:=by unfold ph;rw[e1]
   refine⟨F1,by rw[e1];dsimp only;show Xf _ _ _,by rw[e1];dsimp only;show upn (Xf _ _ _),.inr ⟨hC,hp,by rw[e1];dsimp only;show Xf _ _ _,?_⟩⟩
   have no0:(q2 ls k).c.f (.no,(ph ls s:Nat))=none->(q2 ls (k+1)).c.f (.no,(ph ls s:Nat))=some (ph ls k):=fun z=>by
    rw[e1]
    dsimp only
    rw[W0 (Vr 'd')]
    unfold up0
    rw[z]
    show Xf _ _ _
   have els:(q2 ls (k+1)).f (.els,(s:Nat))=(q2 ls k).f (.els,(s:Nat)):=by rw[e1];dsimp only;show upn (upn rfl)
   rw[els]
   rcases d4 with⟨_,g1,g2⟩ | ⟨_,e',g1,g2⟩
   .exact .inl ⟨g1,no0 g2⟩
   .refine .inr ⟨e',g1,?_⟩
    rcases g2 with g2 | ⟨g2,_,g3⟩
    .rw[e1]
     dsimp only
     rw[W0 (Vr 'd')]
     unfold up0
     rw[g2]
     show g2
    .rw[no0 g2,g3]
 have e1:q2 ls (k+1)=⟨up (up (q2 ls k).f (.frm,(k:Nat)) s) (.don,(s:Nat)) k,ss,⟨t',f',es⟩⟩:=by rw[Zt h];unfold q2s;rw[e0,ec];rfl
 have hp:ph ls (k+1)=t'.length:=by unfold ph;rw[e1]
 have hm:=Jr ls (show k<=k+1 from mh k)
 refine⟨⟨⟨?_,?_,?_,?_,?_,?_,?_,?_⟩,?_,?_⟩,by rw[e1];show ec,s,by rw[q1];rfl,cc e1⟩<;>(rw[e1];try dsimp only)
 .refine al.imp fun x t e ht hF=>hF.keep (upi (upn rfl) (by have:=gt1 t ht;lia)) (upn (upn rfl)) (fun z=>fe _ _ z) (fun z1 z2=>(cl _ (fun z=>?_)).trans z2) (fun hc=>⟨cn _ fun _=>?_,cb _ fun _=>?_⟩) fun e' z1 _ z3=>?_
  .rw[z1] at z;have:=gt1 t ht;have:=Dg z;lia
  .have:=Zb0 hc (gt1 t ht);lia
  .have:=Zb0 hc (gt1 t ht);lia
  .let⟨_,y1,y2⟩:=I.el t e' z1
   have:(q2 ls (e'+1)).s=(q2 ls e').s:=by rw[Zt y1];rfl
   rw[<-this,<-z3,q1] at y2
   have:=gt1 t ht
   have:=Dg y2
   lia
 .exact gt2
 .intro t l' ht hl hbg
  rcases Nat.lt_succ_iff_lt_or_eq.mp ht with z | rfl
  .rcases I.op t l' z hl hbg with y | ⟨j,y⟩
   .rw[q1] at y
    rcases An.mp y with rfl | y
    .exact .inr ⟨k,Xf _ _ _⟩
    .exact .inl y
   .exact .inr ⟨j,fe _ _ y⟩
  .rw[h] at hl;cases hl;cases hbg
 .intro t j z
  by_cases hts:t=s
  .subst hts
   rw[Xf] at z
   cases z
   show⟨'o',h,by rw[q1];rfl⟩
  .let⟨a,b⟩:=I.dn t j (undn ((W0 (Ge 'o')).symm.trans z))
   show⟨'o',b⟩
 .intro t j z;let⟨a,b⟩:=I.el t j (undn (undn z));show⟨'o',b⟩
 .intro n hn
  have:=I.fh n (by rw[W7 h];show hn)
  show⟨upn (upn this.1),(ca _ _ 'd' 'd' 'd').trans this.2.1,(cl n (by rw[this.1];show fun z=>by cases z)).trans this.2.2⟩
 .intro i hi
  have:=I.ff i 'o'
  show⟨upn (upi this.1 'o'),upi (upn this.2.1) 'o',upn (upn this.2.2)⟩
 .intro i hi
  have:=I.fr i 'o'
  show⟨(ca _ _ 'd' 'd' 'd').trans this.1,(cn _ fun hc=>by have:=Zb0 hc F1;lia).trans this.2.1,(cb _ fun hc=>by have:=Zb0 hc F1;lia).trans this.2.2⟩
 .exact fe
 .exact cx
end
section
variable{ls:LG}{m:Nat}
def Zj9(h:(nums ls).Nodup)(k:Nat):(nums (ls.drop k)).Nodup:=by
 rw[<-List.take_append_drop k ls,Zw4] at h
 show(List.nodup_append.mp h).2.1
def I2.go{k:Nat}{u i:List (Tp×Int)}{l:Ln}(y:(nums ls).Nodup)(I:I2 ls k u.reverse)(h:ls[k]?=some l)(nx:nxt u l i):Go ls k i.reverse/\(skp l (ls.drop (k+1))=false->cst (q2 ls k).c l=some (q2 ls (k+1)).c):=by
 have q:=Zj9 y k
 have r:∀{p:Pr},l.beg=false->l≠ .don->i=u->q2 ls (k+1)=⟨(q2 ls k).f,(q2 ls k).s,⟨(q2 ls k).c.t++[p],(q2 ls k).c.f,(q2 ls k).c.o⟩⟩->nums (ls.drop k)=nums (ls.drop (k+1))->cst (q2 ls k).c l=some ⟨(q2 ls k).c.t++[p],(q2 ls k).c.f,(q2 ls k).c.o⟩->Go ls k i.reverse/\(skp l (ls.drop (k+1))=false->cst (q2 ls k).c l=some (q2 ls (k+1)).c):=by
  intro p b d A w j z
  show⟨by rw[A];show I.leaf h b d w j,fun _=>by rw[w];show z⟩
 have j:∀{v},l=v->nums (ls.drop k)=nums (v::ls.drop (k+1)):=fun e=>by rw[W7 h,e]
 cases l with
 | cond a g b=>cases (show i=_ from nx);show⟨by rw[Dl];show I.cond h,fun _=>by rw[Zt h];rfl⟩
 | rnd n=>cases (show i=_ from nx);show⟨by rw[Dl];show I.home true h q,fun _=>by rw[Zt h];rfl⟩
 | prt n=>cases (show i=_ from nx);show⟨by rw[Dl];show I.home false h q,fun _=>by rw[Zt h];rfl⟩
 | els=>
  let⟨B,n,rfl,rfl⟩:=nx
  rw[Dl] at I ⊢
  let⟨a,b,_⟩:=I.els h
  show⟨a,b⟩
 | don=>
  let⟨x,rfl⟩:=nx
  rw[Dl] at I
  let⟨a,b,_⟩:=I.don h
  show⟨a,fun _=>b⟩
 | sum x a s b=>show r rfl (by simp) nx (by rw[Zt h];rfl) (j rfl) rfl
 | lve n=>show r rfl (by simp) nx (by rw[Zt h];rfl) (j rfl) rfl
 | agn n=>show r rfl (by simp) nx (by rw[Zt h];rfl) (j rfl) rfl
 | fin=>show r rfl (by simp) nx (by rw[Zt h];rfl) (j rfl) rfl
def I2.all(g:Gd m ls):∀k,k<=ls.length->∃a,Wk m a (ls.drop k) []/\I2 ls k a.reverse
 | 0,_=>⟨[],g.w,I2.zero ls⟩
 | k+1,e=>by
  let⟨a,w,I⟩:=I2.all g k 'o'
  obtain⟨l,h⟩:∃l,ls[k]?=some l:=⟨_,Ag 'o'⟩
  rw[W7 h] at w
  let⟨_,_,c,d,_,b⟩:=w
  show⟨c,b,(I.go g.n h d).1.i⟩
def goL(g:Gd m ls){k:Nat}{l:Ln}(h:ls[k]?=some l):∃d e,I2 ls k d.reverse/\nxt d l e/\l.inn d/\Go ls k e.reverse/\(skp l (ls.drop (k+1))=false->cst (q2 ls k).c l=some (q2 ls (k+1)).c):=by
 let⟨o,_⟩:=Ac.mp h
 let⟨d,w,I⟩:=I2.all g k 'o'
 rw[W7 h] at w
 let⟨_,f,e,i,_,j⟩:=w
 let⟨a,b⟩:=I.go g.n h i
 show⟨d,e,I,i,f,a,b⟩
def Jk(g:Gd m ls){k n:Nat}(h:k<=n)(d:n<=ls.length):Ex (q2 ls k).f (q2 ls n).f/\Ex (q2 ls k).c.f (q2 ls n).c.f:=by
 induction h with
 | refl=>show⟨fun _ _ z=>z,fun _ _ z=>z⟩
 | @step i _ e=>
  let⟨a,b⟩:=e (Nat.le_of_succ_le d)
  let⟨_,_,_,_,_,G,_⟩:=goL g (Ag (show i<ls.length from d))
  show⟨a.trans G.f,b.trans G.c⟩
def Zg6(g:Gd m ls):∀d k,k+d=ls.length->crun (q2 ls k).c (cl (ls.drop k))=some (q2 ls ls.length).c
 | 0,k,h=>by rw[Ls 'o'];rw[show k=ls.length by lia];rfl
 | d+1,k,h=>by
  have f:k<ls.length:='o'
  have a:ls[k]?=some ls[k]:=Ag f
  have b:=Zg6 g d (k+1) 'o'
  rw[W7 a]
  unfold cl
  let⟨_,_,_,_,_,_,c⟩:=goL g a
  cases e:skp ls[k] (ls.drop (k+1)) with
  | true=>
   rw[nh rfl,<-b]
   congr 1
   rw[Zt a]
   unfold q2s
   rw[e]
   rfl
  | false=>
   rw[ng Bf9]
   show(cst (q2 ls k).c _).bind _=_
   rw[c e]
   show b
abbrev FF(ls:LG):Lb->Option Nat:=(q2 ls ls.length).f
abbrev GF(ls:LG):Lb->Option Nat:=(q2 ls ls.length).c.f
abbrev TT(ls:LG):List Pr:=(q2 ls ls.length).c.t
def Zu6{i:Nat}{p:Pr}(hi:i<ls.length)(h:(q2 ls (i+1)).c.t=(q2 ls i).c.t++p::r):(TT ls)[ph ls i]?=some p:=by
 let⟨y,a⟩:=Zl4 ls (show i+1<=ls.length from hi)
 rw[h] at a
 unfold TT
 unfold ph
 rw[<-a,As,Dt (nc _)]
 rw[Nat.sub_self]
 rfl
def Zi4{i:Nat}{p:Pr}(h:(q2 ls (i+1)).c.t=(q2 ls i).c.t++[p]):ph ls (i+1)=ph ls i+1:=by unfold ph;rw[h];simp
def Yb0(g:Gd m ls):(q2 ls ls.length).s=[]:=by
 let⟨a,w,I⟩:=I2.all g ls.length (nc _)
 rw[List.drop_length] at w
 cases (show []=a from w)
 have:=I.al
 match h:(q2 ls ls.length).s,h2:(q2 ls ls.length).c.o,this with
 | [],[],_=>rfl
def I2.of(g:Gd m ls){k:Nat}(h:k<=ls.length):∃xs,I2 ls k xs:=by let⟨a,_,I⟩:=I2.all g k h;show⟨_,I⟩
def Vk(g:Gd m ls){s:Nat}{l:Ln}(h:ls[s]?=some l)(K:l.beg=true):∃j,j<ls.length/\ls[j]?=some .don/\Cl ls s j (FF ls) (GF ls):=by
 let⟨H,_⟩:=Ac.mp h
 let⟨P,I⟩:=I2.of g (nc ls.length)
 rcases I.op s l H h K with z | ⟨j,hj⟩
 .rw[Yb0 g] at z;cases z
 let⟨o,f,G⟩:=I.dn s j hj
 refine⟨j,o,f,?_⟩
 let⟨R,V,B,E,_,_,_⟩:=goL g f
 let⟨x,rfl⟩:=E
 rw[Dl] at B
 let⟨_,_,W,q,O,A,N,M⟩:=B.don f
 rw[G] at q
 cases q
 let⟨d,c⟩:=Jk g (show j+1<=ls.length from o) (nc _)
 refine⟨O,d _ _ A,d _ _ N,?_⟩
 rcases M with⟨b,n,v,u,t,a⟩ | ⟨v,u,t,a⟩
 .exact .inl ⟨b,n,v,d _ _ u,c _ _ t,a⟩
 .refine .inr ⟨v,u,c _ _ t,?_⟩
  rcases a with⟨a,r⟩ | ⟨e,a,r⟩
  .refine .inl ⟨?_,c _ _ r⟩
   cases J:FF ls (.els,(s:Nat)) with
   | none=>rfl
   | some e=>
    let⟨q,i,p⟩:=I.el s e J
    let⟨C,U,w,k,_,_,_⟩:=goL g i
    let⟨Q,n,rfl,rfl⟩:=k
    rw[Dl] at w
    let⟨_,_,T,y,_,L,_⟩:=w.els i
    rw[p] at y
    cases y
    rcases Nat.lt_trichotomy e j with z | z | z
    .have:=(Jk g (show e+1<=j+1 by lia) o).1 _ _ L
     rw[a] at this
     cases this
    .rw[z,f] at i;cases i
    .have:=(Jk g (show j+1<=e from z) 'o').1 _ _ A
     let⟨S,_,_,_,D,_,F,_⟩:=w.al.top
     rw[D] at p
     cases p
     rw[F.2.1] at this
     cases this
  .exact .inr ⟨e,d _ _ a,c _ _ r⟩
def Nc(g:Gd m ls)(h:ls[j]?=some .don):∃s l,ls[s]?=some l/\l.beg=true/\Cl ls s j (FF ls) (GF ls):=by
 let⟨p,_⟩:=Ac.mp h
 let⟨q,r,i,o,_,_,_⟩:=goL g h
 let⟨x,rfl⟩:=o
 rw[Dl] at i
 let⟨_,_,s,u,C⟩:=i.don h
 obtain⟨l,c,f⟩:∃l,ls[s]?=some l/\l.beg=true:=by
  rcases C.2.2.2 with⟨b,n,d,_⟩ | ⟨⟨a,g,b,d⟩,_⟩
  .exact⟨_,d,by cases b<;>rfl⟩
  .exact⟨_,d,rfl⟩
 refine⟨s,l,c,f,?_⟩
 let⟨t,_,_,k⟩:=Vk g c f
 have:=(Jk g (show j+1<=ls.length from p) (nc _)).1 _ _ C.2.1
 have e:=k.2.1
 rw[show FF ls (.don,(s:Nat))=some j from this] at e
 cases e
 show k
def Z49(g:Gd m ls)(h:ls[e]?=some .els):∃s,isC ls s/\s<e/\FF ls (.frm,(e:Nat))=some s/\FF ls (.els,(s:Nat))=some e/\((ls[e+1]?=some .don/\ph ls (e+1)=ph ls e)\/((TT ls)[ph ls e]?=some (.jump (.beh,(ph ls s:Nat)))/\ph ls (e+1)=ph ls e+1)):=by
 let⟨he,_⟩:=Ac.mp h
 let⟨ss,s1,I,nx,_,_,_⟩:=goL g h
 let⟨tl,n,rfl,rfl⟩:=nx
 rw[Dl] at I
 let⟨_,_,s,e1,e2,e3,e4,e5⟩:=I.els h
 let⟨x1,x2⟩:=Jk g (show e+1<=ls.length from he) (nc _)
 have hs:s<e:=by
  let⟨s4,_,_,_,q4,_,F,_⟩:=I.al.top
  rw[q4] at e1
  cases e1
  show F.1
 show⟨s,e2,hs,x1 _ _ e4,x1 _ _ e3,e5.imp id fun z=>⟨Zu6 he z,Zi4 z⟩⟩
def X6(g:Gd m ls){s:Nat}(b:Bool){n:Int}(h:ls[s]?=some (if b then .rnd n else .prt n)):FF ls (.hom,n)=some s/\GF ls (.agn,n)=some (ph ls s)/\ph ls (s+1)=ph ls s:=by
 let⟨i,_⟩:=Ac.mp h
 let⟨d,a⟩:=Jk g (show s+1<=ls.length from i) (nc _)
 have e:q2 ls (s+1)=⟨up (q2 ls s).f (.hom,n) s,s::(q2 ls s).s,⟨(q2 ls s).c.t,up (q2 ls s).c.f (.agn,n) (ph ls s),.home b n::(q2 ls s).c.o⟩⟩:=by rw[Zt h];cases b<;>rfl
 rw[e] at d a
 show⟨d _ _ (Xf _ _ _),a _ _ (Xf _ _ _),by unfold ph;rw[e]⟩
def V4(g:Gd m ls){i:Nat}{l:Ln}{b:Bool}{n:Int}(h:ls[i]?=some l)(hi:∀a,l.inn a->(Tp.crd,n)∈a\/(b=false/\(Tp.cpt,n)∈a)):∃(s:Nat) (c:Bool),ls[s]?=some (if c then .rnd n else .prt n)/\(b=true->c=true):=by
 let⟨a,w,I,_,j,_,_⟩:=goL g h
 have d:∀t,(t,n)∈a->(t= .crd\/t= .cpt)->∃(s:Nat) (c:Bool),ls[s]?=some (if c then .rnd n else .prt n)/\t=if c then .crd else .cpt:=by
  intro t r o
  let⟨s,e,_,F⟩:=I.al.mem _ (List.mem_reverse.mpr r)
  rcases F.2.2 with⟨c,_,v,_,_,u⟩ | ⟨_,_,_,f | f⟩
  .exact⟨s,c,v,u⟩
  .rcases o with rfl | rfl<;>cases f.1
  .rcases o with rfl | rfl<;>cases f.1
 rcases hi a j with z | ⟨zb,z⟩
 .let⟨s,c,k,q⟩:=d _ z (.inl rfl)
  show⟨s,c,k,fun _=>by cases c;cases q;rfl⟩
 .let⟨s,c,k,q⟩:=d _ z (.inr rfl)
  show⟨s,c,k,fun p=>by rw[zb] at p;cases p⟩
end
open LN CY
def stop:Ln->Bool
 | .sum _ _ _ _ | .cond _ _ _ | .fin=>true
 | _=>false
def isR:Option Ln->Bool
 | some (.rnd _)=>true
 | _=>false
def nx1(ls:LG)(F:Lb->Option Nat)(p:Nat):Ln->Option Nat
 | .els=>(F (.frm,(p:Nat))).bind fun s=>(F (.don,(s:Nat))).map (·+1)
 | .don=>(F (.frm,(p:Nat))).map fun s=>if isR ls[s]? then s+1 else p+1
 | .lve n=>(F (.hom,n)).bind fun s=>(F (.don,(s:Nat))).map (·+1)
 | .agn n=>(F (.hom,n)).map (·+1)
 | _=>some (p+1)
def NX(ls:LG)(p:Nat):Option Nat:=match ls[p]? with
 | none=>none
 | some l=>if stop l then none else nx1 ls (FF ls) p l
def JR(a:List Raw)(p:Nat):Option Nat:=match a[p]? with
 | some (.jump t)=>some t
 | _=>none
def Rws(ls:LG)(a:List Raw):Prop:=(TT ls++[Pr.fin]).map (res (GF ls))=a.map some
section
variable{ls:LG}{m:Nat}{raws:List Raw}
def Rws.at(h:Rws ls raws){i:Nat}{p:Pr}(a:(TT ls)[i]?=some p):∃r,raws[i]?=some r/\res (GF ls) p=some r:=by
 have:=congrArg (fun l=>l[i]?) h
 try dsimp only at this
 rw[Ao,Ao,Dn (Ac.mp a).1,a] at this
 cases e:raws[i]? with
 | none=>rw[e] at this;cases this
 | some r=>rw[e] at this;show⟨r,rfl,Dg this⟩
def Rws.len(h:Rws ls raws):raws.length=(TT ls).length+1:=by
 have:=congrArg Mh h
 rw[Af,Af,Ae] at this
 show this.symm
def Rws.end(h:Rws ls raws):raws[ph ls ls.length]?=some .fin:=by
 have:=congrArg (fun l=>l[(TT ls).length]?) h
 try dsimp only at this
 rw[Ao,Ao,Dt (nc _),Nat.sub_self] at this
 change raws[(TT ls).length]?=_
 cases e:raws[(TT ls).length]? with
 | none=>rw[e] at this;cases this
 | some r=>rw[e] at this;cases this;rfl
def Rws.jump(h:Rws ls raws){i:Nat}{a:Lb}{t:Nat}(c:(TT ls)[i]?=some (.jump a))(e:GF ls a=some t):raws[i]?=some (.jump t):=by
 let⟨r,d,b⟩:=h.at c
 change (GF ls a).map Raw.jump=some r at b
 rw[e] at b
 cases b
 show d
def JR_j{i t:Nat}(h:raws[i]?=some (.jump t)):JR raws i=some t:=by unfold JR;rw[h]
def SR(l:Ln)(r:Raw):Prop:=match l,r with
 | .sum x a s b,.sum f e c d=>x=f/\a=e/\s=c/\b=d
 | .cond a s b,.test e c d _=>a=e/\s=c/\b=d
 | .fin,.fin=>True
 | _,_=>False
def Bm{i:Nat}{p:Pr}(h:(q2 ls (i+1)).c.t=(q2 ls i).c.t++[p])(hi:i<ls.length):(TT ls)[ph ls i]?=some p/\ph ls (i+1)=ph ls i+1:=⟨Zu6 hi h,Zi4 h⟩
def Bt{i:Nat}{a:Opd}{s:Str}{b:Opd}(g:Gd m ls)(h:ls[i]?=some (.cond a s b)):(TT ls)[ph ls i]?=some (.test a s b (.yes,(ph ls i:Nat)))/\(TT ls)[ph ls i+1]?=some (.jump (.no,(ph ls i:Nat)))/\ph ls (i+1)=ph ls i+2/\GF ls (.yes,(ph ls i:Nat))=some (ph ls (i+1)):=by
 let⟨hi,_⟩:=Ac.mp h
 have e1:q2 ls (i+1)=⟨(q2 ls i).f,i::(q2 ls i).s,⟨(q2 ls i).c.t++[.test a s b (.yes,(ph ls i:Nat))]++[.jump (.no,(ph ls i:Nat))],up (q2 ls i).c.f (.yes,(ph ls i:Nat)) (ph ls i+2),.cho (ph ls i)::(q2 ls i).c.o⟩⟩:=by rw[Zt h];rfl
 have hp:=ph_C ⟨a,s,b,h⟩
 refine⟨Zu6 (r:=[.jump (.no,(ph ls i:Nat))]) hi (by rw[e1];simp),?_,hp,?_⟩
 .let⟨y,hy⟩:=Zl4 ls (show i+1<=ls.length from hi)
  unfold TT ph
  rw[<-hy,e1]
  dsimp only
  rw[As,As,Dt 'o',Nat.add_sub_cancel_left]
  rfl
 .have:=(Jk g (show i+1<=ls.length from hi) (nc _)).2
  rw[e1] at this
  rw[hp]
  show this _ _ (Xf _ _ _)
def G5(g:Gd m ls)(hr:Rws ls raws){i:Nat}{l:Ln}(h:ls[i]?=some l)(hs:stop l=true):∃r,raws[ph ls i]?=some r/\SR l r:=by
 let⟨hi,_⟩:=Ac.mp h
 cases l with
 | sum x a s b=>
  let⟨h1,h2⟩:=Bm (p:= .sum x a s b) (by rw[Zt h];rfl) hi
  let⟨r,h3,h4⟩:=hr.at h1
  cases h4
  show⟨_,h3,rfl,rfl,rfl,rfl⟩
 | fin=>
  let⟨h1,h2⟩:=Bm (p:= .fin) (by rw[Zt h];rfl) hi
  let⟨r,h3,h4⟩:=hr.at h1
  cases h4
  show⟨_,h3,trivial⟩
 | cond a s b=>
  let⟨h1,h2,h3,h4⟩:=Bt g h
  let⟨r,h5,h6⟩:=hr.at h1
  change (GF ls _).map (Raw.test a s b)=some r at h6
  rw[h4] at h6
  cases h6
  show⟨_,h5,rfl,rfl,rfl⟩
 | _=>cases hs
def Yl1(h:ls.length<=k):ph ls k=ph ls ls.length:=by
 induction h with
 | refl=>rfl
 | step h a=>rw[<-a];unfold ph;rw[Qa h]
def Yt2(g:Gd m ls)(i:Rws ls raws)(p:Nat)(h:NX ls p=none):JR raws (ph ls p)=none:=by
 unfold NX at h
 cases e:ls[p]? with
 | none=>
  rw[Yl1 (Dp.mp e)]
  unfold JR
  rw[i.end]
 | some l=>
  rw[e] at h
  dsimp only at h
  cases f:stop l with
  | true=>
   let⟨r,u,o⟩:=G5 g i e f
   unfold JR
   rw[u]
   cases r with
   | jump t=>cases l<;>cases o
   | _=>rfl
  | false=>
   rw[f,ng Bf9] at h
   cases l with
   | els=>
    let⟨s,⟨a,q,b,d⟩,_,v,_⟩:=Z49 g e
    let⟨j,_,_,C⟩:=Vk g d rfl
    change (FF ls (.frm,(p:Nat))).bind _=_ at h
    rw[v] at h
    change (FF ls (.don,(s:Nat))).map _=none at h
    rw[C.2.1] at h
    cases h
   | don=>
    let⟨s,_,_,_,C⟩:=Nc g e
    change (FF ls (.frm,(p:Nat))).map _=_ at h
    rw[C.2.2.1] at h
    cases h
   | lve n=>
    let⟨s,c,d,_⟩:=V4 (b:=false) (n:=n) g e fun k z=>z.imp id fun z=>⟨rfl,z⟩
    let⟨j,_,_,C⟩:=Vk g d (by cases c<;>rfl)
    change (FF ls (.hom,n)).bind _=_ at h
    rw[(X6 g c d).1] at h
    change (FF ls (.don,(s:Nat))).map _=none at h
    rw[C.2.1] at h
    cases h
   | agn n=>
    let⟨s,c,d,_⟩:=V4 (b:=true) (n:=n) g e fun k z=> .inl z
    change (FF ls (.hom,n)).map _=_ at h
    rw[(X6 g c d).1] at h
    cases h
   | rnd n=>cases h
   | prt n=>cases h
   | _=>cases f
def Z78(g:Gd m ls)(hr:Rws ls raws)(p q:Nat)(h:NX ls p=some q):(ph ls q=ph ls p/\p<q)\/JR raws (ph ls p)=some (ph ls q):=by
 unfold NX at h
 cases e:ls[p]? with
 | none=>rw[e] at h;cases h
 | some l=>
  let⟨hp,_⟩:=Ac.mp e
  rw[e] at h
  dsimp only at h
  cases hs:stop l with
  | true=>rw[hs,nh rfl] at h;cases h
  | false=>
   rw[hs,ng Bf9] at h
   cases l with
   | els=>
    let⟨s,⟨a,x,b,hc⟩,_,f1,f2,f3⟩:=Z49 g e
    let⟨j,j1,j2,C⟩:=Vk g hc rfl
    change (FF ls (.frm,(p:Nat))).bind _=_ at h
    rw[f1] at h
    change (FF ls (.don,(s:Nat))).map _=some q at h
    rw[C.2.1] at h
    cases h
    have hC:ph ls (j+1)=ph ls j/\GF ls (.beh,(ph ls s:Nat))=some (ph ls j):=by
     rcases C.2.2.2 with⟨c,n,d,_⟩ | ⟨_,d1,d2,_⟩
     .rw[hc] at d;cases c<;>cases d
     .exact⟨d1,d2⟩
    rcases f3 with⟨f3,f4⟩ | ⟨f3,f4⟩
    .let⟨s',l',hl',hb',C'⟩:=Nc g f3
     refine .inl ?_
     have ej:j=p+1:=by
      let⟨ss,s1,I,nx,_,_,_⟩:=goL g e
      let⟨tl,n,rfl,rfl⟩:=nx
      rw[Dl] at I
      let⟨G,_,s2,y1,_,y2,y3,_⟩:=I.els e
      let⟨x1,_⟩:=Jk g (show p+1<=ls.length from hp) (nc _)
      have y4:=x1 _ _ y3
      rw[show(q2 ls ls.length).f (.frm,(p:Nat))=some s from f1] at y4
      cases y4
      let⟨ss2,s3,I2',nx2,_,_,_⟩:=goL g f3
      let⟨x',rfl⟩:=nx2
      rw[Dl] at I2'
      let⟨_,_,s4,z1,z2,z3,_⟩:=I2'.don f3
      have:(q2 ls (p+1)).s=(q2 ls p).s:=by rw[Zt e];rfl
      rw[this,y1] at z1
      cases z1
      have z4:=(Jk g (show p+1+1<=ls.length from(Ac.mp f3).1) (nc _)).1 _ _ z3
      rw[show(q2 ls ls.length).f (.don,(s:Nat))=some j from C.2.1] at z4
      show Dg z4
     show⟨by change ph ls (j+1)=_;rw[hC.1,ej];show f4,by change p<j+1;lia⟩
    .exact .inr (by rw[JR_j (hr.jump f3 hC.2),hC.1])
   | don=>
    let⟨s,l',hl',hb',C⟩:=Nc g e
    change (FF ls (.frm,(p:Nat))).map _=_ at h
    rw[C.2.2.1] at h
    change some (if isR ls[s]? then s+1 else p+1)=some q at h
    rcases C.2.2.2 with⟨c,n,d1,d2,d3,d4⟩ | ⟨⟨a,x,b,d1⟩,d2,_⟩
    .rw[d1] at h
     cases c with
     | true=>
      cases h
      let⟨_,k2,k3⟩:=X6 g true d1
      show .inr (by rw[JR_j (hr.jump (Zu6 hp d4) k2)];show congrArg some k3.symm)
     | false=>
      cases h
      show .inl ⟨d4,Nat.lt_succ_self _⟩
    .rw[d1] at h
     cases h
     show .inl ⟨d2,Nat.lt_succ_self _⟩
   | lve n=>
    let⟨s,c,hc,_⟩:=V4 (b:=false) (n:=n) g e fun ss z=>z.imp id fun z=>⟨rfl,z⟩
    let⟨j,_,_,C⟩:=Vk g hc (by cases c<;>rfl)
    change (FF ls (.hom,n)).bind _=_ at h
    rw[(X6 g c hc).1] at h
    change (FF ls (.don,(s:Nat))).map _=some q at h
    rw[C.2.1] at h
    cases h
    let⟨h1,_⟩:=Bm (p:= .jump (.lve,n)) (by rw[Zt e];rfl) hp
    refine .inr (JR_j (hr.jump h1 ?_))
    rcases C.2.2.2 with⟨c',n',d1,_,d3,_⟩ | ⟨⟨a,x,b,d1⟩,_⟩
    .rw[hc] at d1
     cases c<;>cases c'<;>cases d1<;>show d3
    .rw[hc] at d1;cases c<;>cases d1
   | agn n=>
    let⟨s,c,hc,_⟩:=V4 (b:=true) (n:=n) g e fun ss z=> .inl z
    let⟨k1,k2,k3⟩:=X6 g c hc
    change (FF ls (.hom,n)).map _=_ at h
    rw[k1] at h
    cases h
    let⟨h1,_⟩:=Bm (p:= .jump (.agn,n)) (by rw[Zt e];rfl) hp
    show .inr (by rw[JR_j (hr.jump h1 k2),k3])
   | rnd n=>cases h;show .inl ⟨(X6 g true e).2.2,Nat.lt_succ_self _⟩
   | prt n=>cases h;show .inl ⟨(X6 g false e).2.2,Nat.lt_succ_self _⟩
   | _=>cases hs
end
def intD(a:LQ):LD:=a.map fun n=>D.int (n:Nat)
def Zo5(M:Z2)(xs:List (List Key×D))(N:Z2):Zx (M++ .dcp xs::N) M.length=some xs:=by
 unfold Zx
 rw[Dt (nc _),Nat.sub_self]
 rfl
def Ks.P{a:Nat}(h:Ks F M M')(n:¬F a)(e:Zx M a=some xs):Zx M' a=some xs:=by
 rw[Tx (h.at' a n (Rv e))];show e
def Jt:DSp:=fun f M Q _=>∃(r m:Nat) (b:LG),f=[.ref r]/\Z7 M r=some (b.map Ln.d)/\Gd m b/\b.length<=400/\∀a c e,Kp M c->Zx c e=some a->PM a (FF b)->Q (.ref e) c
structure Mk2(ls:LG)(f:Lb->Option Nat)(s:LQ)(n a b:Nat)(M:Z2):Prop where
 p:∃kvs,Zx M a=some kvs/\PM kvs f/\kvs.length<=n
 w:Z4 M b=some (intD s.reverse)
 l:s.length<=500
 b':n<=5000
section
variable{ls:LG}{f:Lb->Option Nat}{s:LQ}{n a b:Nat}{M:Z2}
def Mk2.ne(h:Mk2 ls f s n a b M):a≠b:=by
 rintro rfl
 let⟨i,d,_⟩:=h.p
 have g:=h.w
 unfold Zx at d
 unfold Z4 at g
 cases e:M[a]? with
 | none=>rw[e] at d;cases d
 | some c=>
  rw[e] at d g
  cases c with
  | lst _=>cases d
  | _=>cases g
def Mk2.put(h:Mk2 ls f s n a b M)(l:Lb)(v:Nat)(d:n+1<=5000):∃kvs,Zx M a=some kvs/\kvs.length<sizeLine/\Mk2 ls (up f l v) s (n+1) a b (M.set a (.dcp (putD kvs (lbk l) (.int (v:Nat))))):=by
 let⟨kvs,c,e,g⟩:=h.p
 refine⟨kvs,c,Z3 'o',⟨_,?_,e.put l v,by have:=Bq kvs (lbk l) (.int (v:Nat));lia⟩,?_,h.l,d⟩
 .unfold Zx;rw[Di (Rv c)]
 .rw[Zb h.ne];show h.w
def Mk2.stk(h:Mk2 ls f s n a b M)(t:LQ)(d:t.length<=500):Mk2 ls f t n a b (M.set b (.lst (intD t.reverse))):=by
 let⟨c,i,g,e⟩:=h.p
 refine⟨⟨c,?_,g,e⟩,Zh (Zd (Z1 h.w)),d,h.b'⟩
 rw[Tx (Yd (Au h.ne))];show i
def Mk2.up(h:Mk2 ls f s n a b M){k:Nat}(i:n<=k)(d:k<=5000):Mk2 ls f s k a b M:=by
 let⟨c,g,e,j⟩:=h.p
 show⟨⟨c,g,e,'o'⟩,h.w,h.l,d⟩
end
def Ze2(ls:LG):∀k,(q2 ls k).s.length<=k
 | 0=>nc _
 | k+1=>by
  have a:=Ze2 ls k
  cases e:ls[k]? with
  | none=>rw[Qa (Dp.mp e)];lia
  | some l=>
   rw[Zt e]
   show(mst _ _ _ l).2.length<=_
   cases l<;>simp[mst]<;>lia
section
variable{K:Ab}{Γ:List DSp}{G:LD}
def Y31(gb:Γ[29]?=some Ye):Rd K Γ G Jt Z59 Z58:=by
 rintro ds M Q Z ⟨r,m,j,rfl,hr,g,hl,q⟩
 delta Z59 Z58
 rfl'
 have k0:Kp M (M++[.dcp []]++[.lst []]):=(Ks.new M _).app _
 have l1:(M++[Cell.dcp []]:Z2).length=M.length+1:=by simp
 rw[l1]
 refine⟨Z0 'd',Zg (k0.pL hr) ⟨'o',by rw[Af];lia,?_⟩⟩
 rw[Int.toNat_natCast,Af]
 refine Xm (fun i Y H=>∃(d3 d4:Option D),Y=[↑r,↑M.length,some (.ref (M.length+1)),d3,d4]/\Kp M H/\Mk2 j (q2 j i).f (q2 j i).s (3 * i) M.length (M.length+1) H) ⟨none,none,rfl,k0,⟨[],?_,fun _=>rfl,nc _⟩,?_,nl _,'o'⟩ ?_ ?_
 .rw[As];show Zo5 _ _ _
 .rw[<-l1];show Za _ _ []
 .rintro i Y H P hi ⟨d3,d4,rfl,k,h⟩ hP
  obtain⟨l,t⟩:∃l,j[i]?=some l:=⟨_,Ag hi⟩
  have y0:(j.map Ln.d)[i]?=some l.d:=by rw[Ao,t];rfl
  let⟨S,s1,I,nx,_,_,_⟩:=goL g t
  have sl:=Ze2 j i
  rw[tg_one,Int.zero_add]
  delta Nk
  rfl'
  refine ix_l (k:=i) (k.pL hr) y0 ?_
  rfl'
  simp only[gb]
  refine⟨l,rfl,?_⟩
  have v:∀(B:DEnv->Z2->Prop) (X:Z2),l≠ .els->l≠ .don->Kp M X->Mk2 j (q2 j (i+1)).f (q2 j (i+1)).s (3 * (i+1)) M.length (M.length+1) X->tss ⟨K,Γ,G⟩ noX Xk {nx:=P,rt:=Q,bk:=B,ct:=P} [↑r,↑M.length,some (.ref (M.length+1)),some (.int (i:Nat)),some l.d] X:=by
   intro B X n1 n2 k2 O
   have e:=hP _ _ ⟨some (.int (i:Nat)),some l.d,rfl,k2,O⟩
   delta Xk
   cases l with
   | els=>show absurd rfl n1
   | don=>show absurd rfl n2
   | _=>simp only[Ln.d] at e ⊢;rfl';delta Wt;rfl';show e
  have U:∀f',f'=(q2 j i).f->Mk2 j f' (i::(q2 j i).s) (3 * i) M.length (M.length+1) (H.set (M.length+1) (.lst (intD (q2 j i).s.reverse++[.int (i:Nat)]))):=by
   rintro f' rfl
   have:=h.stk (i::(q2 j i).s) (by rw[Ar];lia)
   rw[Ix] at this
   unfold intD at this ⊢
   rw[Aw] at this
   show this
  have N:∀c,Kp M (H.set (M.length+1) c):=fun c=>k.set (.inr 'o')
  have W:∀n:Int,(q2 j (i+1)).f=up (q2 j i).f (.hom,n) i->(q2 j (i+1)).s=i::(q2 j i).s->∃o,Zx (H.set (M.length+1) (.lst (intD (q2 j i).s.reverse++[.int (i:Nat)]))) M.length=some o/\o.length<sizeLine/\Mk2 j (q2 j (i+1)).f (q2 j (i+1)).s (3 * (i+1)) M.length (M.length+1) ((H.set (M.length+1) (.lst (intD (q2 j i).s.reverse++[.int (i:Nat)]))).set M.length (.dcp (putD o (lbk (.hom,n)) (.int (i:Nat))))):=by
   intro n R e2
   let⟨o,A,y,V⟩:=(U _ rfl).put (.hom,n) i 'o'
   show⟨o,A,y,by rw[R,e2];show V.up 'o' 'o'⟩
  cases l with
  | cond a s b=>
   simp only[Ln.beg,Ln.d]
   rfl'
   refine⟨Z5 (Z1 h.w),_,h.w,Z3 (by unfold intD;rw[Af,Ij];lia),?_⟩
   rw[ng (fun z=>z trivial)]
   refine v _ _ (by simp) (by simp) (N _) ?_
   rw[Zt t]
   show(U _ rfl).up 'o' 'o'
  | rnd n=>
   simp only[Ln.beg,Ln.d]
   rfl'
   refine⟨Z5 (Z1 h.w),_,h.w,Z3 (by unfold intD;rw[Af,Ij];lia),?_⟩
   let⟨o,A,y,V⟩:=W n (by rw[Zt t];rfl) (by rw[Zt t];rfl)
   show⟨Z0 'd',.inr (.inr ⟨o,lbk (.hom,n),A,rfl,y,v _ _ (by simp) (by simp) ((N _).set (.inr (nc _))) V⟩)⟩
  | prt n=>
   simp only[Ln.beg,Ln.d]
   rfl'
   refine⟨Z5 (Z1 h.w),_,h.w,Z3 (by unfold intD;rw[Af,Ij];lia),?_⟩
   let⟨o,A,y,V⟩:=W n (by rw[Zt t];rfl) (by rw[Zt t];rfl)
   show⟨Z0 'd',.inr (.inr ⟨o,lbk (.hom,n),A,rfl,y,v _ _ (by simp) (by simp) ((N _).set (.inr (nc _))) V⟩)⟩
  | els=>
   let⟨tl,n,rfl,rfl⟩:=nx
   rw[Dl] at I
   let⟨s,S,e,es,T,_,_,_⟩:=I.al.top
   have R:(q2 j (i+1)).f=up (up (q2 j i).f (.els,(s:Nat)) i) (.frm,(i:Nat)) s/\(q2 j (i+1)).s=(q2 j i).s:=by rw[Zt t];unfold q2s;dsimp only;rw[T];show⟨rfl,rfl⟩
   have E:atI (intD (q2 j i).s.reverse) (-1)=some (.int (s:Nat)):=by rw[T,Ix];unfold intD;rw[Aw];show Nr _ _
   let⟨o,A,y,F⟩:=h.put (.els,(s:Nat)) i 'o'
   let⟨u,L,J,O⟩:=F.put (.frm,(i:Nat)) s 'o'
   simp only[Ln.beg,Ln.d]
   rfl'
   delta Xk
   rfl'
   refine Tf (Z1 h.w) E ⟨Z0 'd',.inr (.inr ⟨o,lbk (.els,(s:Nat)),A,rfl,y,Tf (Z1 F.w) E ⟨Z0 'd',.inr (.inr ⟨u,lbk (.frm,(i:Nat)),L,rfl,J,?_⟩)⟩⟩)⟩
   delta Wt
   rfl'
   show hP _ _ ⟨_,_,rfl,(k.set (.inr (nc _))).set (.inr (nc _)),by rw[R.1,R.2];show O.up 'o' 'o'⟩
  | don=>
   let⟨x,rfl⟩:=nx
   rw[Dl] at I
   let⟨s,S,e,es,T,_,_,_⟩:=I.al.top
   have R:(q2 j (i+1)).f=up (up (q2 j i).f (.frm,(i:Nat)) s) (.don,(s:Nat)) i/\(q2 j (i+1)).s=S:=by rw[Zt t];unfold q2s;dsimp only;rw[T];show⟨rfl,rfl⟩
   have C:intD (q2 j i).s.reverse=intD S.reverse++[.int (s:Nat)]:=by rw[T,Ix];unfold intD;rw[Aw];rfl
   have E:atI (intD (q2 j i).s.reverse) (-1)=some (.int (s:Nat)):=by rw[C];show Nr _ _
   have z0:S.length<=500:=by have:=h.l;rw[T,Ar] at this;lia
   let⟨o,A,y,F⟩:=h.put (.frm,(i:Nat)) s 'o'
   have O:=F.stk S z0
   let⟨u,L,J,h3⟩:=O.put (.don,(s:Nat)) i 'o'
   simp only[Ln.beg,Ln.d]
   rfl'
   delta Xk
   rfl'
   delta Wt
   rfl'
   refine Tf (Z1 h.w) E ⟨Z0 'd',.inr (.inr ⟨o,lbk (.frm,(i:Nat)),A,rfl,y,Z5 (Z1 F.w),_,.int (s:Nat),F.w,by rw[C];simp,Z0 'd',.inr (.inr ⟨u,lbk (.don,(s:Nat)),?_,rfl,J,?_⟩)⟩)⟩
   .rw[C,List.dropLast_concat];show L
   .rw[C,List.dropLast_concat]
    show hP _ _ ⟨_,_,rfl,((k.set (.inr (nc _))).set (.inr 'o')).set (.inr (nc _)),by rw[R.1,R.2];show h3.up 'o' 'o'⟩
  | sum x a s b=>
   simp only[Ln.beg]
   rfl'
   show v _ _ (by simp) (by simp) k (by rw[Zt t];show h.up 'o' 'o')
  | _=>
   simp only[Ln.beg]
   rfl'
   show v _ _ (by simp) (by simp) k (by rw[Zt t];show h.up 'o' 'o')
 .rintro Y H ⟨d3,d4,rfl,k,h⟩
  delta O0
  rfl'
  let⟨o,F,O,_⟩:=h.p
  show q o _ _ k F O
end
open LN CY
def Yb7{m:Nat}(g:Gd m ls){p:Nat}{l:Ln}(e:ls[p]?=some l)(h:stop l=false):∃q,NX ls p=some q/\q<=ls.length:=by
 have u:=(Ac.mp e).1
 have d:∀q,nx1 ls (FF ls) p l=some q->q<=ls.length->∃q,NX ls p=some q/\q<=ls.length:=fun q r o=>⟨q,by unfold NX;rw[e];dsimp only;rw[h];show r,o⟩
 cases l with
 | els=>
  let⟨s,⟨a,x,b,f⟩,_,t,_⟩:=Z49 g e
  let⟨j,k,_,C⟩:=Vk g f rfl
  show d (j+1) (by show(FF ls _).bind _=_;rw[t];show(FF ls _).map _=_;rw[C.2.1];rfl) 'o'
 | don=>
  let⟨s,_,_,_,C⟩:=Nc g e
  have:=C.1
  refine d _ (show(FF ls _).map _=_ by rw[C.2.2.1];rfl) ?_
  dsimp only
  split<;>lia
 | lve n=>
  let⟨s,c,f,_⟩:=V4 (b:=false) (n:=n) g e fun i z=>z.imp id fun z=>⟨rfl,z⟩
  let⟨j,k,_,C⟩:=Vk g f (by cases c<;>rfl)
  show d (j+1) (by show(FF ls _).bind _=_;rw[(X6 g c f).1];show(FF ls _).map _=_;rw[C.2.1];rfl) 'o'
 | agn n=>
  let⟨s,c,f,_⟩:=V4 (b:=true) (n:=n) g e fun i z=> .inl z
  have:=(Ac.mp f).1
  show d (s+1) (by show(FF ls _).map _=_;rw[(X6 g c f).1];rfl) 'o'
 | rnd n=>show d (p+1) rfl 'o'
 | prt n=>show d (p+1) rfl 'o'
 | _=>cases h
def Zw5{p q:Nat}(h:NX ls p=some q):∃l,ls[p]?=some l/\stop l=false/\nx1 ls (FF ls) p l=some q:=by
 unfold NX at h
 cases e:ls[p]? with
 | none=>rw[e] at h;cases h
 | some l=>
  rw[e] at h
  dsimp only at h
  cases a:stop l with
  | true=>rw[a,nh rfl] at h;cases h
  | false=>rw[a,ng Bf9] at h;show⟨l,rfl,a,h⟩
structure Mks(ls:LG)(r mr:Nat)(M:Z2):Prop where
 g:Gd 89 ls
 l:ls.length<=400
 r:Z7 M r=some (ls.map Ln.d)
 p:∃kvs,Zx M mr=some kvs/\PM kvs (FF ls)
def Mks.ks{r b:Nat}(h:Mks ls r b M)(k:Kp M M'):Mks ls r b M':=by
 let⟨a,d,c⟩:=h.p
 show⟨h.g,h.l,k.pL h.r,a,k.P (fun z=>z) d,c⟩
def Mks.ix{r b:Nat}(h:Mks ls r b M){a:Lb}{v:Nat}(e:FF ls a=some v)(q:F (.int (v:Nat))):ixD M (.ref b) (lbd a) F:=by
 let⟨c,f,d⟩:=h.p
 show ix_p (ks:=lbk a) f (by rw[d a,e];rfl) q
def Mks.at{r a:Nat}(h:Mks ls r a M){p:Nat}{l:Ln}(e:ls[p]?=some l)(q:F l.d):ixD M (.ref r) (.int (p:Nat)) F:=ix_l (k:=p) h.r (by rw[Ao,e];rfl) q
def wd:Ln->Str
 | .cond _ _ _=>"if" | .sum _ _ _ _=>"sum" | .rnd _=>"round" | .prt _=>"part" | .lve _=>"leave" | .agn _=>"again" | .els=>"else" | .don=>"done" | .fin=>"end"
def Zw9{l:Ln}(q:F (.str (wd l))):ixD M l.d (.int 0) F:=by cases l<;>show⟨_,ati0,q⟩
def Yl3(l:Ln):decide (wd l="round")=isR (some l):=by cases l<;>first | show decide_eq_true rfl | show mf (by simp only[wd];decide+kernel)
def Z69:DSp:=fun c M Q _=>∃(b:LG) (r a p q:Nat),c=[.ref r,.ref a,.int (p:Nat)]/\Mks b r a M/\NX b p=some q/\Q (.int (q:Nat)) M
def noP(ls:LG)(p:Nat):Nat:=match FF ls (.els,(p:Nat)) with
 | some e=>e+1
 | none=>(FF ls (.don,(p:Nat))).getD 0+1
def spNo:DSp:=fun ds M Q _=>∃(ls:LG) (r mr p:Nat),ds=[.ref r,.ref mr,.int (p:Nat)]/\Mks ls r mr M/\isC ls p/\Q (.int (noP ls p:Nat)) M
section
variable{K:Ab}{Γ:List DSp}{G:LD}
def Yd1:Rd K Γ G Z69 Zs0 Zi2:=by
 rintro ds M Q Z ⟨o,r,E,p,q,rfl,h,D,m⟩
 let⟨l,e,B,i⟩:=Zw5 D
 have f:∀s:Nat,((s:Nat):Int)+1=((s+1:Nat):Int):=fun s=>by lia
 delta Zs0 Zi2
 rfl'
 refine h.at e ?_
 cases l with
 | els=>
  let⟨s,⟨a,x,b,k⟩,_,v,_⟩:=Z49 h.g e
  let⟨j,A,_,C⟩:=Vk h.g k rfl
  change (FF o _).bind _=_ at i
  rw[v] at i
  change (FF o (.don,(s:Nat))).map _=_ at i
  rw[C.2.1] at i
  cases i
  simp only[Ln.d]
  rfl'
  refine⟨Z0 'd',h.ix (a:=(.frm,(p:Nat))) v ⟨Z0 'd',h.ix (a:=(.don,(s:Nat))) C.2.1 ?_⟩⟩
  rfl'
  rw[f]
  show m
 | don=>
  let⟨s,y,t,_,C⟩:=Nc h.g e
  change (FF o _).map _=_ at i
  rw[C.2.2.1] at i
  change some (if isR o[s]? then s+1 else p+1)=some q at i
  rw[t,<-Yl3] at i
  simp only[Ln.d]
  rfl'
  delta Xi
  rfl'
  refine⟨Z0 'd',h.ix (a:=(.frm,(p:Nat))) C.2.2.1 (h.at t (Zw9 ?_))⟩
  rfl'
  by_cases u:wd y="round"
  .rw[decide_eq_true u] at i
   cases i
   rw[nh u]
   refine⟨Z0 'd',h.ix (a:=(.frm,(p:Nat))) C.2.2.1 ?_⟩
   rfl'
   rw[f]
   show m
  .rw[mf u] at i
   cases i
   rw[ng u]
   delta Xj
   rfl'
   delta Wh
   rfl'
   delta Tc
   rfl'
   rw[f]
   show m
 | lve n=>
  let⟨s,c,k,_⟩:=V4 (b:=false) (n:=n) h.g e fun w z=>z.imp id fun z=>⟨rfl,z⟩
  let⟨j,A,_,C⟩:=Vk h.g k (by cases c<;>rfl)
  change (FF o (.hom,n)).bind _=_ at i
  rw[(X6 h.g c k).1] at i
  change (FF o (.don,(s:Nat))).map _=_ at i
  rw[C.2.1] at i
  cases i
  simp only[Ln.d]
  rfl'
  delta Xi
  rfl'
  delta Xj
  rfl'
  refine⟨Z0 'd',h.ix (a:=(.hom,n)) (X6 h.g c k).1 ⟨Z0 'd',h.ix (a:=(.don,(s:Nat))) C.2.1 ?_⟩⟩
  rfl'
  rw[f]
  show m
 | agn n=>
  let⟨s,c,k,_⟩:=V4 (b:=true) (n:=n) h.g e fun w z=> .inl z
  change (FF o (.hom,n)).map _=_ at i
  rw[(X6 h.g c k).1] at i
  cases i
  simp only[Ln.d]
  rfl'
  delta Xi
  rfl'
  delta Xj
  rfl'
  delta Wh
  rfl'
  refine⟨Z0 'd',h.ix (a:=(.hom,n)) (X6 h.g c k).1 ?_⟩
  rfl'
  rw[f]
  show m
 | rnd n=>
  cases i
  simp only[Ln.d]
  rfl'
  delta Xi
  rfl'
  delta Xj
  rfl'
  delta Wh
  rfl'
  delta Tc
  rfl'
  rw[f]
  show m
 | prt n=>
  cases i
  simp only[Ln.d]
  rfl'
  delta Xi
  rfl'
  delta Xj
  rfl'
  delta Wh
  rfl'
  delta Tc
  rfl'
  rw[f]
  show m
 | _=>cases B
def Yy2:Rd K Γ G spNo Yv8 Yv9:=by
 rintro ds M Q Z ⟨i,r,n,p,rfl,h,⟨a,x,b,k⟩,q⟩
 let⟨j,o,_,C⟩:=Vk h.g k rfl
 let⟨d,m,l⟩:=h.p
 have c:∀s:Nat,((s:Nat):Int)+1=((s+1:Nat):Int):=fun s=>by lia
 delta Yv8 Yv9
 rfl'
 refine⟨Z0 'd',.inr (.inr (.inr ⟨d,lbk (.els,(p:Nat)),rfl,m,?_⟩))⟩
 rw[l (.els,(p:Nat))]
 unfold noP at q
 cases f:FF i (.els,(p:Nat)) with
 | some e=>
  rw[f] at q
  rw[nh (show(Option.map _ (some e)).isSome=true from rfl)]
  refine⟨Z0 'd',h.ix (a:=(.els,(p:Nat))) f ?_⟩
  rfl'
  rw[c]
  show q
 | none=>
  rw[f,C.2.1] at q
  rw[ng (by simp)]
  delta Zf7
  rfl'
  refine⟨Z0 'd',h.ix (a:=(.don,(p:Nat))) C.2.1 ?_⟩
  rfl'
  rw[c]
  show q
end
open LN CY
def CN(ls:LG)(p:Nat)(v:Int):Prop:=(∃q:Nat,v=q/\Orb (NX ls) p q/\NX ls q=none/\q<=ls.length)\/(v= -1/\∃l,Orb (NX ls) p l/\Cyc (NX ls) l)
def Ji:DSp:=fun d M Q _=>∃(a:LG) (r b p:Nat),d=[.ref r,.ref b,.int (p:Nat)]/\Mks a r b M/\p<=a.length/\∀v c,CN a p v->Kp M c->Q (.int v) c
abbrev s3:LD:=[.str "sum",.str "if",.str "end"]
def Yc2(l:Ln):inD (.str (wd l)) s3=stop l:=by cases l<;>simp only[wd,stop]<;>decide+kernel
section
variable{K:Ab}{Γ:List DSp}{G:LD}
def Zy0(H:Γ[38]?=some Z69):Rd K Γ G Ji Z65 Z11:=by
 rintro ds M Q Z ⟨b,r,v,p,rfl,h,C,q⟩
 delta Z65 Z11
 rfl'
 refine Zg h.r ?_
 rfl'
 have J:=h.l
 refine⟨by rw[Af];lia,by rw[Af];lia,?_⟩
 have I:(((b.map Ln.d).length:Int)+1).toNat=b.length+1:=by rw[Af];lia
 rw[I]
 refine Xm (fun i f c=>∃(u:Option D) (x:Nat),f=[↑r,↑v,some (.int (x:Nat)),u]/\Kp M c/\it (NX b) i p=some x/\x<=b.length) ⟨none,p,rfl,Ks.refl _,rfl,C⟩ ?_ ?_
 .rintro i f c P L ⟨u,x,rfl,k,a,o⟩ F
  rw[tg_one]
  delta Nf
  rfl'
  refine Zg (k.pL h.r) ?_
  rfl'
  have B:=h.ks k
  rw[Af]
  by_cases n:x=b.length
  .rw[ng (fun z=>z 'o'),nh 'o']
   refine q x _ (.inl ⟨x,rfl,Re a,?_,o⟩) k
   unfold NX
   rw[Dh 'o']
  .rw[nh (fun z=>n 'o')]
   have s:x<b.length:='o'
   have t:b[x]?=some b[x]:=Ag s
   refine B.at t (Zw9 ⟨Z0 'd',.inl ⟨s3,Zj _ _ [],rfl,rfl,?_⟩⟩)
   rw[Yc2]
   dsimp only
   have j:Kp c (c++[.lst s3]):=Ks.new _ _
   cases A:stop b[x] with
   | true=>
    rw[nh rfl]
    refine q x _ (.inl ⟨x,rfl,Re a,?_,o⟩) (k.trans j)
    unfold NX
    rw[t]
    dsimp only
    rw[A]
    rfl
   | false=>
    rw[ng Bf9]
    let⟨y,w,m⟩:=Yb7 h.g t A
    delta Ni
    rfl'
    simp only[H]
    refine⟨b,r,v,x,y,rfl,B.ks j,w,?_⟩
    rfl'
    refine F _ _ ⟨_,y,rfl,k.trans j,?_,m⟩
    rw[V6,a]
    show(NX b x).bind _=_
    rw[w]
    rfl
 .rintro f c ⟨u,x,rfl,k,a,o⟩
  have E:=Y75 (fun p q z=>by let⟨l,e,_⟩:=Zw5 z;show(Ac.mp e).1) a
  delta Nj
  rfl'
  show q _ _ (.inr ⟨rfl,x,Re a,E⟩) k
end
def Kp.new(M N:Z2):Kp M (M++N):=Ks.new M N
def Kp.L{a:Nat}(h:Kp M M')(e:Z7 M a=some xs):Z7 M' a=some xs:=Ks.L h (fun z=>z) e
def Kp.W{a:Nat}(h:Kp M M')(e:Z4 M a=some xs):Z4 M' a=some xs:=Ks.W h (fun z=>z) e
def Kp.D{a:Nat}(h:Kp M M')(e:Z9 M a=some xs):Z9 M' a=some xs:=by
 have l:a<M.length:=Xo e
 unfold Z9 at e ⊢
 rw[h.at' a (fun z=>z) l];show e
inductive Nd where
 | sum (x:Str) (a:Opd) (sg:Str) (b:Opd) (t:Nat) | test (a:Opd) (sg:Str) (b:Opd) (y n:Nat) | fin | spin
def Nd.d:Nd->D
 | .sum x a c b t=> .tup [.str "sum",.str x,a.d,.str c,b.d,.int t]
 | .test a c b y n=> .tup [.str "test",a.d,.str c,b.d,.int y,.int n]
 | .fin=> .tup [.str "end"]
 | .spin=> .tup [.str "spin"]
def natD(l:LQ):LD:=l.map fun(x:Nat)=>D.int (x:Int)
def Bl(l:LQ):(natD l).length=l.length:=by unfold natD;simp
def Zw6{l:LQ}{k x:Nat}(h:l[k]?=some x):(natD l)[k]?=some (.int x):=by unfold natD;rw[Ao,h];rfl
def begD(B:LQ):KQ9:=B.map fun(x:Nat)=>((Hn (x:Int),D.bl true):Key×D)
def Zu4(B:LQ):(begD B).length=B.length:=by unfold begD;simp
def Ya1(B:LQ)(y:Nat):(valD (begD B) (Hn (y:Int))).isSome=decide (y∈B):=by
 unfold valD begD
 induction B with
 | nil=>rfl
 | cons x r a=>
  rw[De,Hl]
  by_cases e:x=y
  .subst e;simp
  .have:decide ((Hn (x:Int):Key)=Hn (y:Int))=false:=by
    rw[decide_eq_false_iff_not];intro z;show e (by have:=Mg z;lia)
   rw[this]
   simp only
   rw[a]
   have b:¬y=x:=fun z=>e z.symm
   simp[b]
def Zt8{y:Nat}(h:¬y∈B):putD (begD B) (Hn (y:Int)) (.bl true)=begD (B++[y]):=by
 unfold putD
 rw[ng]
 symm
 .unfold begD;rw[Aw];rfl
 .intro z
  let⟨d,b,a⟩:=Le.mp z
  unfold begD at b
  let⟨x,c,rfl⟩:=Hy.mp b
  rw[decide_eq_true_eq] at a
  have:=Mg a
  have e:x=y:='o'
  show h (e ▸ c)
def numP(O:LQ):KQ9:=O.mapIdx fun i (x:Nat)=>((Hn (x:Int),D.int (i:Nat)):Key×D)
def Ee(O:LQ)(y:Nat):numP (O++[y])=numP O++[(Hn (y:Int),D.int (O.length:Nat))]:=by unfold numP;rw[List.mapIdx_append];simp
def Z32(O:LQ):(numP O).length=O.length:=by unfold numP;simp
def Za4(ps:KQ9)(p:Key×D):Ri (ps++[p])=putD (Ri ps) p.1 p.2:=by unfold Ri;rw[List.foldl_append];rfl
def Bb:∀(n:Nat) (O:LQ),O.length=n->O.Nodup->∀x∈O,valD (Ri (numP O)) (Hn (x:Int))=some (.int (O.idxOf x:Nat))
 | 0,O,h,_,x,f=>by rw[Ig.mp h] at f;cases f
 | n+1,O,h,g,x,f=>by
  have c:O≠[]:=by rintro rfl;cases h
  obtain⟨d,y,rfl⟩:∃d y,O=d++[y]:=⟨O.dropLast,O.getLast c,(List.dropLast_concat_getLast c).symm⟩
  rw[Ae,Ak] at h
  have a:=List.nodup_append.mp g
  rw[Ee,Za4,V0]
  by_cases e:y=x
  .subst e
   rw[nh rfl]
   symm
   have i:y∉d:=fun z=>a.2.2 y z y (by simp) rfl
   rw[List.idxOf_append,ng i]
   simp
  .rw[ng (fun z=>e (by have:=Mg z;lia))]
   symm
   have b:x∈d:=(Az.mp f).resolve_right (by rw[Am];show fun z=>e z.symm)
   rw[Bb n d 'o' a.1 x b,List.idxOf_append,nh b]
def JOf(rows:List Rw)(pl:KQ9)(J:Nat->Option Nat):Prop:=∀p r,rows[p]?=some r->match r with
 | Rw.jump _ g=>∃q,J p=some q/\q<rows.length/\valD pl (Hn (g:Int))=some (D.int (q:Nat))
 | _=>J p=none
def LanD(kvs:KQ9)(m:Nat->Option Nat):Prop:=∀p:Nat,valD kvs (Hn (p:Int))=(m p).map fun(g:Nat)=>D.int (g:Int)
def LanD.put{m:Nat->Option Nat}(h:LanD kvs m)(p g:Nat):LanD (putD kvs (Hn (p:Int)) (.int (g:Nat))) (fun x=>if x=p then some g else m x):=by
 intro x
 rw[V0]
 by_cases e:x=p
 .subst e;rw[nh rfl];change _=Option.map _ (if x=x then some g else m x);rw[nh rfl];rfl
 .rw[ng (fun z=>e (by have:=Mg z;lia))];change _=Option.map _ (if x=p then some g else m x);rw[ng e];show h x
  symm
def By(m:KQ9)(k:Key)(v:D):(putD m k v).length<=m.length+1:=by
 unfold putD
 split
 .rw[Af];lia
 .rw[Ae,Ak];show nc _
def Wy:DSp:=fun h M Q _=>∃(a b:Nat) (c:List Rw) (g:KQ9) (J:Nat->Option Nat),h=[.ref a,.ref b]/\Z7 M a=some (c.map Rw.d)/\Z9 M b=some g/\c.length<=2000/\JOf c g J/\
 ∀e m f,LanD e m->LN.Ln J c.length m->(∀p,p<c.length->(m p).isSome=true)->Kp M f->Z9 f M.length=some e->Q (.ref M.length) f
def Z91{a:Type}{o:Option a}{x:a}(h:o=some x):o.isSome=true:=by rw[h];rfl
def Zv8(M N:Z2)(k:Nat):(M++N)[M.length+k]?=N[k]?:=by rw[Dt 'o',Nat.add_sub_cancel_left]
section
variable{K:Ab}
def Z80{Γ G}:Rd K Γ G Wy Pz Ov:=by
 rintro ds M Q Z ⟨a,b,rows,pl,J,rfl,ha,hb,hn,hJ,q⟩
 delta Pz Ov
 symm
 refine Zg (Ze ha) ⟨'o',by rw[Af];lia,?_⟩
 symm
 rw[Int.toNat_natCast,Af]
 refine Xm (fun i σ M'=>∃kvs m N d3 d4 d5 d6 d7,σ=[↑a,↑b,↑M.length,d3,d4,d5,d6,d7]/\M'=M++ .dct kvs::N/\LanD kvs m/\LN.Ln J rows.length m/\(∀p,p<i->(m p).isSome=true)/\kvs.length<=i * 3000)
  ⟨[],fun _=>none,[],none,none,none,none,none,rfl,rfl,fun p=>rfl,(fun p g h=>by cases h),(fun p h=>by lia),nl _⟩ ?_ ?_
 .rintro i σ M' C hi ⟨kvs,m,N,d3,d4,d5,d6,d7,rfl,rfl,lan,ln,tot,hk⟩ hC
  have hrow:∀p,p<rows.length->∃r,rows[p]?=some r:=fun p hp=>⟨_,Ag hp⟩
  (delta Su;simp only[Int.zero_add])
  symm
  rw[As,Hx]
  have el:(M++ .dct kvs::N).length=M.length+(N.length+1):=by simp
  rw[el]
  have rdP:∀kv c,Z9 (M++ .dct kv::(N++[.dct c])) (M.length+(N.length+1))=some c:=fun kv c=>by rw[Zc4];show Y5 N _ []
  have rdL:∀kv N',Z9 (M++ .dct kv::N') M.length=some kv:=fun kv N'=>Y5 _ _ _
  refine⟨fun w σ M'=>∃(P:LQ) (p:Nat),w=rows.length - P.length/\σ=[↑a,↑b,↑M.length,some (.int (i:Nat)),some (.ref (M.length+(N.length+1))),some (.int (p:Nat)),d6,d7]/\M'=M++ .dct kvs::(N++[.dct (begD P)])/\LN.Lk J i P p/\P.Nodup/\(∀x∈P,x<rows.length/\m x=none)/\p<rows.length,
   ⟨_,[],i,rfl,rfl,rfl,rfl,by simp,by simp,hi⟩,?_⟩
  rintro w σ M' ⟨P,p,rfl,rfl,rfl,lk,nd,hP,hp⟩
  have hPl:P.length<=rows.length:=ND.Gy rows.length P nd fun x hx=>(hP x hx).1
  have hkb:kvs.length<=6000000:=by
   have:i * 3000<=2000 * 3000:=Nat.mul_le_mul_right _ 'o'
   lia
  let⟨r,hr⟩:=hrow p hp
  have stop:∀bk,((m p).isSome=true\/p∈P\/J p=none)->tss ⟨K,Γ,G⟩ noX W4 {nx:=C,rt:=Q,bk:=bk,ct:=C} [↑a,↑b,↑M.length,some (.int (i:Nat)),some (.ref (M.length+(N.length+1))),some (.int (p:Nat)),d6,d7] (M++ .dct kvs::(N++[.dct (begD P)])):=by
   intro bk hs
   let⟨l1,l2,l3⟩:=ln.land lk hP hp hs
   delta W4
   symm
   refine⟨Z91 (rdL _ _),kvs,_,rdL _ _,rfl,?_⟩
   symm
   have eg:((valD kvs (Hn (p:Int))).getD (.int (p:Nat)))= .int ((m p).getD p:Nat):=by rw[lan p];cases m p<;>rfl
   rw[eg]
   generalize hg:(m p).getD p=g at l1 l2 l3
   refine .inr (.inl ⟨kvs,_,rdL _ _,rfl,Z3 'o',?_⟩)
   symm
   rw[Xe]
   refine⟨begD P,rdP _ _,?_⟩
   symm
   have fz:∀kv,(M++ .dct kv::(N++[.fdc (begD P)]):Z2)[M.length+(N.length+1)]?=some (.fdc (begD P)):=fun kv=>by rw[Zv8,List.getElem?_cons_succ,Z12]
   have sz:∀kv c,(M++ .dct kv::(N++[c]):Z2).set (M.length+(N.length+1)) (.fdc (begD P))=M++ .dct kv::(N++[.fdc (begD P)]):=fun kv c=>by rw[Rq,List.set_cons_succ,Xe]
   have st:∀kv,(M++ .dct kv::(N++[.fdc (begD P)]):Z2).set (M.length+(N.length+1)) (.dct (begD P))=M++ .dct kv::(N++[.dct (begD P)]):=fun kv=>by rw[Rq,List.set_cons_succ,Xe]
   have eK:Jg (begD P)=natD P:=by unfold Jg begD natD;rw[List.map_map];rfl
   rw[sz,eK]
   refine Vj (fun j σ M'=>∃kv d7,σ=[↑a,↑b,↑M.length,some (.int (i:Nat)),some (.ref (M.length+(N.length+1))),some (.int (p:Nat)),some (.int (g:Nat)),d7]/\M'=M++ .dct kv::(N++[.fdc (begD P)])/\LanD kv (LN.land m (P.take j) p g)/\kv.length<=kvs.length+1+j)
    ⟨_,d7,rfl,rfl,?_,by have:=By kvs (Hn (p:Int)) (.int (g:Nat));lia⟩ ?_ ?_ ?_
   .have:=lan.put p g
    intro x
    have h2:=this x
    unfold LN.land
    rw[List.take_zero,ng (by simp)]
    show h2
   .rintro j σ M' _ ⟨kv,d7,rfl,rfl,_⟩
    show⟨begD P,fz _,eK.symm⟩
   .rintro j dx σ M' C2 hx ⟨kv,d7,rfl,rfl,lan2,hk2⟩ hC2
    have hj:j<P.length:=by have:=(Ac.mp hx).1;rwa[Bl] at this
    have hgj:P[j]?=some P[j]:=Ag hj
    generalize P[j]=y at hgj
    rw[Zw6 hgj] at hx
    cases hx
    delta Sq
    symm
    refine .inr (.inl ⟨kv,_,rdL _ _,rfl,Z3 'o',?_⟩)
    symm
    rw[Xe]
    refine hC2 _ _ ⟨_,_,rfl,rfl,fun x=>?_,by have:=By kv (Hn (y:Int)) (.int (g:Nat));lia⟩
    symm
    rw[lan2.put y g x,Xa hgj]
    congr 1
    unfold LN.land
    try dsimp only
    by_cases ex:x=y
    .subst ex;rw[nh rfl,nh (by simp)]
    .rw[ng ex]
     symm
     have:(x∈P.take j++[y])↔x∈P.take j:=by simp[ex]
     simp only[this]
   .rintro σ M' ⟨kv,d7,rfl,rfl,lan2,hk2⟩
    rw[Bl] at lan2 hk2
    rw[Lg] at lan2
    refine⟨begD P,fz _,?_⟩
    symm
    rw[st]
    refine hC _ _ ⟨kv,_,_,_,_,_,_,_,rfl,rfl,lan2,l1,fun x hx=>?_,by rw[Nat.add_mul];lia⟩
    symm
    by_cases ex:x=i
    .subst ex;show l2
    .exact l3 x (tot x 'o')
  symm
  refine .inr (.inl ⟨kvs,_,rdL _ _,rfl,?_⟩)
  symm
  rw[lan p,Option.isSome_map]
  try dsimp only
  cases hm:(m p).isSome with
  | true=>
   rw[ng 'd']
   symm
   try rw[ng 'd']
   show stop _ (.inl hm)
  | false=>
   rw[nh rfl]
   symm
   refine .inr (.inl ⟨begD P,_,rdP _ _,rfl,?_⟩)
   symm
   rw[Ya1]
   try dsimp only
   by_cases hpP:p∈P
   .rw[decide_eq_true hpP,ng 'd']
    try rw[ng 'd']
    show stop _ (.inr (.inl hpP))
   .rw[mf hpP,nh rfl]
    refine ix_l (k:=p) (Ze ha) (by rw[Ao,hr];rfl) ?_
    have hJp:=hJ p r hr
    cases r with
    | jump k g=>
     let⟨q',j1,j2,j3⟩:=hJp
     refine⟨_,rfl,?_⟩
     symm
     delta R8
     symm
     have hm':m p=none:=by cases e:m p with
      | none=>rfl
      | some _=>rw[e] at hm;cases hm
     have nd':(P++[p]).Nodup:=List.nodup_append.mpr ⟨nd,by simp,fun a ha c hc=>by rw[Am] at hc;subst hc;show fun e=>hpP (e ▸ ha)⟩
     have hP':∀x∈P++[p],x<rows.length/\m x=none:=fun x hx=>by
      rcases Az.mp hx with hx | hx
      .exact hP x hx
      .rw[Am] at hx;subst hx;show⟨hp,hm'⟩
     have hl':=ND.Gy rows.length (P++[p]) nd' fun x hx=>(hP' x hx).1
     rw[Ae,Ak] at hl'
     refine .inr (.inl ⟨begD P,_,rdP _ _,rfl,by rw[Zu4];show Z3 'o',?_⟩)
     symm
     rw[Zt8 hpP,Rq,List.set_cons_succ,Xe]
     refine ix_l (k:=p) (Ze ha) (by rw[Ao,hr];rfl) ?_
     refine⟨_,rfl,?_⟩
     symm
     refine ix_d (Q1 hb) rfl j3 ?_
     symm
     show⟨_,by rw[Ae,Ak];lia,P++[p],q',rfl,rfl,rfl,lk.snoc j1,nd',hP',j2⟩
    | sum k x o1 sg o2=>
     refine⟨_,rfl,?_⟩
     symm
     try rw[ng 'k']
     symm
     show stop _ (.inr (.inr hJp))
    | test k o1 sg o2 g=>
     refine⟨_,rfl,?_⟩
     symm
     try rw[ng 'k']
     symm
     show stop _ (.inr (.inr hJp))
    | fin k=>
     refine⟨_,rfl,?_⟩
     symm
     try rw[ng 'k']
     symm
     show stop _ (.inr (.inr hJp))
 .rintro σ M' ⟨kvs,m,N,d3,d4,d5,d6,d7,rfl,rfl,lan,ln,tot,hk⟩
  delta Rb
  symm
  show q kvs m _ lan ln tot (Kp.new _ _) (Y5 _ _ _)
end
def Rw.num:Rw->Nat
 | .sum k _ _ _ _=>k
 | .test k _ _ _ _=>k
 | .jump k _=>k
 | .fin k=>k
def Ci(a:List Rw)(g:Nat):Nat:=(a.map Rw.num).idxOf g
def jmp(a:List Rw)(p:Nat):Option Nat:=match a[p]? with
 | some (.jump _ g)=>some (Ci a g)
 | _=>none
def Rw.node(c:List Rw)(L:Nat->Nat)(p:Nat):Rw->Nd
 | .sum _ x a d b=> .sum x a d b (L (p+1))
 | .test _ a d b g=> .test a d b (L (Ci c g)) (L (p+1))
 | .jump _ _=> .spin
 | .fin _=> .fin
def Rw.goal:Rw->Option Nat
 | .test _ _ _ _ g=>some g
 | .jump _ g=>some g
 | _=>none
def Rw.goes:Rw->Bool
 | .sum _ _ _ _ _=>true
 | .test _ _ _ _ _=>true
 | _=>false
structure RwOk(rows:List Rw):Prop where
 pos:0<rows.length
 small:rows.length<=2000
 nd:(rows.map Rw.num).Nodup
 goal:∀r∈rows,∀g,r.goal=some g->g∈rows.map Rw.num
 last:∀p r,rows[p]?=some r->r.goes=true->p+1<rows.length
structure Lands(rows:List Rw)(L:Nat->Nat):Prop where
 lt:∀p,p<rows.length->L p<rows.length
 no:∀p,p<rows.length->jmp rows p=none->L p=p
 yes:∀p q,p<rows.length->jmp rows p=some q->L p=L q
 orb:∀p,p<rows.length->LN.Orb (jmp rows) p (L p)
def Zz(a:List Rw)(L:Nat->Nat):List Nd:=a.mapIdx fun p r=>r.node a L p
def Rx:DSp:=fun e M Q _=>∃(a:Nat) (b:List Rw),e=[.ref a]/\Z7 M a=some (b.map Rw.d)/\RwOk b/\
 ∀L c r,Lands b L->Kp M c->Z4 c r=some ((Zz b L).map Nd.d)->M.length<=r->Q (.tup [.ref r,.int (L 0:Nat)]) c
def Z23{a:List Rw}{g:Nat}(h:g∈a.map Rw.num):Ci a g<a.length:=by
 have:=List.idxOf_lt_length_of_mem h
 rwa[Af] at this
set_option tactic.hygienic true in
def Yp0{a:List Rw}(b:RwOk a){p q:Nat}(h:jmp a p=some q):q<a.length:=by
 unfold jmp at h
 split at h
 .rename_i k g e
  cases h
  show Z23 (b.goal _ (Ax e) g rfl)
 .cases h
def Yl8{a:List Rw}(b:RwOk a){p q:Nat}(h:LN.Orb (jmp a) p q)(d:p<a.length):q<a.length:=by
 induction h with
 | refl _=>show d
 | step e _ c=>show c (Yp0 b e)
def Zt0{a:List Rw}(f:RwOk a){m:Nat->Option Nat}(h:LN.Ln (jmp a) a.length m)(d:∀p,p<a.length->(m p).isSome=true):Lands a (fun p=>(m p).getD 0):=by
 have c:∀p,p<a.length->m p=some ((m p).getD 0):=fun p b=>by
  let⟨g,e⟩:=Hw.mp (d p b)
  rw[e];rfl
 refine⟨fun p b=>Yl8 f (h p _ (c p b)).2.2.2 b,fun p b e=>(h p _ (c p b)).2.1 e,fun p q b e=>?_,fun p b=>(h p _ (c p b)).2.2.2⟩
 symm
 have:=(h p _ (c p b)).2.2.1 q e
 show(m p).getD 0=(m q).getD 0
 rw[this];rfl
def Yv(a:List Rw)(L:Nat->Nat):(Zz a L).length=a.length:=by unfold Zz;simp
def Yh{a:List Rw}{L:Nat->Nat}{i:Nat}(h:a[i]?=some r):(Zz a L)[i]?=some (r.node a L i):=by unfold Zz;rw[Lv,h];rfl
section
variable{K:Ab}
def Zv0{Γ G}(g4:Γ[18]?=some Wy):Rd K Γ G Rx Z22 Bo:=by
 rintro ds M Q Z ⟨a,rows,rfl,ha,ok,q⟩
 have hn:=ok.small
 delta Z22 Bo
 symm
 refine⟨_,ha,?_⟩
 symm
 simp only[capD,De,Iu,Option.bind_none,Option.bind_some,List.getElem?_cons_zero,List.getElem?_cons_succ,Option.join_some]
 refine Ju (fun i σ M'=>∃d1 d2,σ=[d1,d2]/\M'=M++[.lst (U.Vl (numP ((rows.map Rw.num).take i)))]) ⟨none,none,rfl,rfl⟩ ?_ ?_ ?_
 .rintro i σ M' _ ⟨d1,d2,rfl,rfl⟩
  show⟨_,Ze ha,rfl⟩
 .rintro i dx σ M' C hx ⟨d1,d2,rfl,rfl⟩ hC
  let⟨y,hy,rfl⟩:=Nv hx
  have hi:i<rows.length:=by have:=(Ac.mp hy).1;rwa[Af] at this
  obtain⟨r,hr⟩:∃r,rows[i]?=some r:=⟨_,Ag hi⟩
  rw[Ao,hr] at hy
  cases hy
  have hnum:(rows.map Rw.num)[i]?=some r.num:=by rw[Ao,hr];rfl
  have e0:∀F:D->Prop,F (.int (r.num:Nat))->ixD (M++[.lst (U.Vl (numP ((rows.map Rw.num).take i)))]) r.d (.int 0) F:=fun F f=>by cases r<;>show⟨_,rfl,f⟩
  symm
  refine e0 _ ⟨Z0 'd',_,Za _ _ [],by unfold U.Vl;rw[Af,Z32,Ke,Af];show Z3 'o',?_⟩
  symm
  rw[Xe]
  refine hC _ _ ⟨_,_,rfl,?_⟩
  symm
  rw[Xa hnum,Ee,Ke,Af,Nat.min_eq_left 'o']
  unfold U.Vl
  rw[Aw]
  rfl
 .rintro σ M' ⟨d1,d2,rfl,rfl⟩
  rw[Jw,Af,<-Af (f:=Rw.num) (as:=rows),Lg]
  symm
  refine .inr ⟨numP (rows.map Rw.num),Zj _ _ [],by rw[Z32,Af];show Z3 'o',?_⟩
  symm
  have k1:Kp M (M++[.lst (U.Vl (numP (rows.map Rw.num)))]++[.dct (Ri (numP (rows.map Rw.num)))]):=(Kp.new _ _).app _
  have hd1:Z9 (M++[.lst (U.Vl (numP (rows.map Rw.num)))]++[.dct (Ri (numP (rows.map Rw.num)))]) (M++[Cell.lst (U.Vl (numP (rows.map Rw.num)))]:Z2).length=some (Ri (numP (rows.map Rw.num))):=Y5 _ _ []
  generalize M++[.lst (U.Vl (numP (rows.map Rw.num)))]++[.dct (Ri (numP (rows.map Rw.num)))]=M1 at k1 hd1
  generalize (M++[Cell.lst (U.Vl (numP (rows.map Rw.num)))]:Z2).length=nn at hd1
  have ha1:=k1.L ha
  try simp only[g4]
  have jof:JOf rows (Ri (numP (rows.map Rw.num))) (jmp rows):=by
   intro p r hr
   cases r with
   | jump k g=>
    have hg:=ok.goal _ (Ax hr) g rfl
    show⟨Ci rows g,by unfold jmp;rw[hr],Z23 hg,Bb _ _ rfl ok.nd g hg⟩
   | _=>change jmp rows p=none;unfold jmp;rw[hr]
  refine⟨a,nn,rows,_,jmp rows,rfl,ha1,hd1,hn,jof,fun kvs m M2 lan ln tot k2 hk=>?_⟩
  symm
  have lands:=Zt0 ok ln tot
  have hd2:=k2.D hd1
  have ha2:=k2.L ha1
  have val:∀p:Nat,p<rows.length->valD kvs (Hn (p:Int))=some (.int ((m p).getD 0:Nat)):=fun p hp=>by
   rw[lan p]
   let⟨g,e⟩:=Hw.mp (tot p hp)
   rw[e];rfl
  symm
  refine⟨Z0 'd',_,Ze ha2,?_⟩
  symm
  have hk':∀N,Z9 (M2++N) M1.length=some kvs:=fun N=>Q1 hk
  have hp':∀N,Z9 (M2++N) nn=some (Ri (numP (rows.map Rw.num))):=fun N=>Q1 hd2
  generalize hL:(fun p=>(m p).getD 0)=L at lands
  have val':∀p:Nat,p<rows.length->valD kvs (Hn (p:Int))=some (.int (L p:Nat)):=fun p hp=>by rw[val p hp,<-hL]
  refine Vj (fun i σ M'=>∃d4 d5,σ=[↑a,↑nn,↑M1.length,↑M2.length,d4,d5]/\M'=M2++[.lst (((Zz rows L).take i).map Nd.d)]) ⟨none,none,rfl,rfl⟩ ?_ ?_ ?_
  .rintro i σ M' _ ⟨d4,d5,rfl,rfl⟩
   show⟨_,Ze ha2,rfl⟩
  .rintro i dx σ M' C hx ⟨d4,d5,rfl,rfl⟩ hC
   let⟨y,hy,rfl⟩:=Nv hx
   have hi:i<rows.length:=by have:=(Ac.mp hy).1;rwa[Af] at this
   obtain⟨r,hr⟩:∃r,rows[i]?=some r:=⟨_,Ag hi⟩
   rw[Ao,hr] at hy
   cases hy
   have len:(((Zz rows L).take i).map Nd.d).length<sizeLine:=by
    rw[Af,Ke,Yv]
    show Z3 'o'
   have fin:∀d4 d5,C [↑a,↑nn,↑M1.length,↑M2.length,d4,d5] (M2++[.lst (((Zz rows L).take i).map Nd.d++[(r.node rows L i).d])]):=by
    intro d4 d5
    refine hC _ _ ⟨d4,d5,rfl,?_⟩
    symm
    rw[Xa (Yh hr),Aw]
    rfl
   have put:∀d4 d5 v,v=(r.node rows L i).d->∃xs,Z4 (M2++[.lst (((Zz rows L).take i).map Nd.d)]) M2.length=some xs/\xs.length<sizeLine/\C [↑a,↑nn,↑M1.length,↑M2.length,d4,d5] ((M2++[.lst (((Zz rows L).take i).map Nd.d)]:Z2).set M2.length (.lst (xs++[v]))):=by
    rintro d4 d5 v rfl
    refine⟨_,Za _ _ [],len,?_⟩
    symm
    rw[Xe]
    show fin d4 d5
   have isS:(Z7 (M2++[.lst (((Zz rows L).take i).map Nd.d)]) M2.length).isSome=true:=Z5 (Zj _ _ [])
   have e1:((i:Int)+1)=((i+1:Nat):Int):='o'
   delta Na
   symm
   cases r with
   | sum k x o1 sg o2=>
    have hl:=ok.last i _ hr rfl
    simp only[Rw.d]
    symm
    rw[show U.cutD [.int k,.str "sum",.str x,o1.d,.str sg,o2.d] (some 1) none=[.str "sum",.str x,o1.d,.str sg,o2.d] from rfl,e1]
    refine⟨isS,'d',ix_d (hk' _) rfl (val' _ hl) ⟨Z0 'd',by simp,Z0 (by simp),put _ _ _ rfl⟩⟩
   | test k o1 sg o2 g=>
    have hl:=ok.last i _ hr rfl
    have hg:=ok.goal _ (Ax hr) g rfl
    simp only[Rw.d]
    symm
    rw[show U.cutD [.int k,.str "test",o1.d,.str sg,o2.d,.int g] (some 1) (some 5)=[.str "test",o1.d,.str sg,o2.d] from rfl,e1]
    refine⟨isS,'d',?_⟩
    refine ix_d (hp' _) rfl (Bb _ _ rfl ok.nd g hg) (ix_d (hk' _) rfl (val' _ (Z23 hg)) (ix_d (hk' _) rfl (val' _ hl) ⟨Z0 'd',by simp,Z0 (by simp),put _ _ _ rfl⟩))
   | fin k=>
    simp only[Rw.d]
    symm
    show⟨isS,Z0 'd',put _ _ _ rfl⟩
   | jump k g=>
    simp only[Rw.d]
    symm
    show⟨isS,Z0 'd',put _ _ _ rfl⟩
  .rintro σ M' ⟨d4,d5,rfl,rfl⟩
   rw[Jw,Af,<-Yv rows L,Lg]
   delta Oo
   symm
   refine ix_d (y:=Hn ((0:Nat):Int)) (hk' _) rfl (val' 0 ok.pos) ⟨Z0 'd',?_⟩
   symm
   refine q L _ _ lands ((k1.trans k2).app _) (Za _ _ []) ?_
   symm
   show nj k1.len k2.len
end
def dI:D->Int
 | .int i=>i
 | _=>0
def wI(kvs:KQ9):Opd->Int
 | .no i=>i
 | .nm x=>dI ((valD kvs (Dq x)).getD (.int 0))
def MI(n:Nat)(kvs:KQ9):Prop:=∀k v,valD kvs k=some v->∃i,v= .int i/\Bits n i
def OB:Opd->Prop
 | .no i=>Bits 64 i
 | .nm _=>True
def MI.wth{n:Nat}(h:MI n kvs)(b:64<=n)(a:OB o):Bits n (wI kvs o):=by
 cases o with
 | no i=>show(show Bits 64 i from a).mono b
 | nm x=>
  change Bits n (dI ((valD kvs (Dq x)).getD (.int 0)))
  cases e:valD kvs (Dq x) with
  | none=>show(show Bits 1 0 by unfold Bits;decide).mono 'o'
  | some v=>let⟨i,rfl,c⟩:=h _ _ e;show c
def MI.get{n:Nat}(h:MI n kvs)(x:Str):(valD kvs (Dq x)).getD (.int 0)= .int (wI kvs (.nm x)):=by
 change _=D.int (dI ((valD kvs (Dq x)).getD (.int 0)))
 cases e:valD kvs (Dq x) with
 | none=>rfl
 | some v=>let⟨i,rfl,a⟩:=h _ _ e;rfl
def MI.put{n:Nat}(h:MI n kvs)(k:Key){i:Int}(hi:Bits (n+1) i):MI (n+1) (putD kvs k (.int i)):=by
 intro j v e
 rw[V0] at e
 split at e
 .cases e;show⟨i,rfl,hi⟩
 .let⟨w,rfl,a⟩:=h j v e;show⟨w,rfl,a.mono 'o'⟩
def MI.mono{n m:Nat}(h:MI n kvs)(k:n<=m):MI m kvs:=fun j v e=>by let⟨i,a,b⟩:=h j v e;show⟨i,a,b.mono k⟩
def mkS(c:Str)(a b:Int):Option Int:=
 if c="+" then some (a+b) else if c="-" then some (a - b) else if c="/" then(if b=0 then none else some (qdiv a b)) else if c="rest" then(if b=0 then none else some (qmod a b)) else if c="&" then some (Ma a b) else some (Mb a b)
def hld(c:Str)(a b:Int):Bool:=if c="<" then decide (a<b) else decide (a=b)
def Rs{n:Nat}{x:Int}(h:Bits n x):-(2 ^ n:Nat)<=x/\x< (2 ^ n:Nat):=by unfold Bits at h;lia
def Z54{n:Nat}{x:Int}(h:-(2 ^ n:Nat)<=x/\x< (2 ^ n:Nat)):Bits (n+1) x:=by
 unfold Bits
 rw[Nat.pow_succ]
 lia
def Zq8{n:Nat}{l:Str}{a b v:Int}(d:Bits n a)(c:Bits n b)(h:mkS l a b=some v):Bits (n+1) v:=by
 unfold mkS at h
 split at h
 .cases h;show d.add c
 split at h
 .cases h
  have:Bits n (-b):=by unfold Bits at c ⊢;rw[Int.natAbs_neg];show c
  have:=d.add this
  rwa[<-Int.sub_eq_add_neg] at this
 split at h
 .split at h
  .cases h
  .cases h
   rename_i f
   refine Bits.mono (n:=n) ?_ 'o'
   unfold Bits at d ⊢
   rw[<-Zm8]
   show ma (Int.natAbs_fdiv_le_natAbs a b) d
 split at h
 .split at h
  .cases h
  .cases h
   rename_i f
   refine Bits.mono (n:=n) ?_ 'o'
   unfold Bits at c ⊢
   rw[<-Zf2]
   rcases Int.lt_or_le 0 b with h0 | h0
   .rw[Int.fmod_eq_emod_of_nonneg _ 'o']
    have:=nw a f
    have:=nv a h0
    lia
   .have e:=Int.neg_fmod_neg a b
    rw[Int.fmod_eq_emod_of_nonneg _ 'o'] at e
    have:=nw (-a) (show -b≠0 by lia)
    have:=nv (-a) (show 0< -b by lia)
    lia
 split at h
 .cases h
  let⟨k,j⟩:=Rs d
  let⟨i,g⟩:=Rs c
  show Z54 (UB.range_and k j i g)
 .cases h
  let⟨k,j⟩:=Rs d
  let⟨i,g⟩:=Rs c
  show Z54 (UB.range_xor k j i g)
def sumT(x:Str)(u:Int)(a:Str)(v w:Int):D:= .tup [.str "sum",.str x,.int u,.str a,.int v,.int w]
def testT(u:Int)(a:Str)(v:Int)(b:Bool):D:= .tup [.str "test",.int u,.str a,.int v,.bl b]
def stN(kvs:KQ9):Nd->Option (D×KQ9×Nat)
 | .sum x a c b t=>(mkS c (wI kvs a) (wI kvs b)).map fun w=>(sumT x (wI kvs a) c (wI kvs b) w,putD kvs (Dq x) (.int w),t)
 | .test a c b y n=>some (testT (wI kvs a) c (wI kvs b) (hld c (wI kvs a) (wI kvs b)),kvs,if hld c (wI kvs a) (wI kvs b)=true then y else n)
 | .fin=>none
 | .spin=>none
def Qe(kvs:KQ9)(x:Str)(a:Opd)(c:Str)(b:Opd)(t:Nat):stN kvs (.sum x a c b t)=(mkS c (wI kvs a) (wI kvs b)).map fun w=>(sumT x (wI kvs a) c (wI kvs b) w,putD kvs (Dq x) (.int w),t):=rfl
def Nd.goes:Nd->Bool
 | .sum _ _ _ _ _=>true
 | .test _ _ _ _ _=>true
 | _=>false
def NB:Nd->Prop
 | .sum _ a _ b _=>OB a/\OB b
 | .test a c b _ _=>OB a/\OB b/\(c="<"\/c="=")
 | _=>True
def onS{a:Type}(o:Option a)(F:a->Prop)(E:Prop):Prop:=match o with
 | some x=>F x
 | none=>E
structure Fine(n:Nat)(kvs:KQ9):Prop where
 mi:MI n kvs
 lo:64<=n
 hi:n<=8000
def Fine.log{n:Nat}(h:Fine n kvs)(a:OB o):(wI kvs o).natAbs.log2<9000:=ni (N6 (h.mi.wth h.lo a) (by have:=h.lo;lia)) (by have:=h.hi;lia)
def Fv(B:Uc)(f:Int->Int->Int):DSp:=fun c M Q Z=>∃a b:Int,c=[.int a,.int b]/\b.natAbs.log2<9000/\(if b=0 then Z B .non M else Q (.int (f a b)) M)
def Z26(B:Uc):DSp:=fun d M Q Z=>∃(c:Str) (a b:Int),d=[.str c,.int a,.int b]/\b.natAbs.log2<9000/\onS (mkS c a b) (fun v=>Q (.int v) M) (Z B .non M)
def Ny:DSp:=fun d M Q _=>∃(c:Str) (a b:Int),d=[.str c,.int a,.int b]/\Q (.bl (hld c a b)) M
def W3:DSp:=fun b M Q _=>∃(o:Opd) (h n:Nat) (a:KQ9),b=[o.d,.ref h]/\Z9 M h=some a/\MI n a/\Q (.int (wI a o)) M
def Vs(B:Uc):DSp:=fun f M Q Z=>∃(x:Str) (a:Opd) (e:Str) (b:Opd) (t h n:Nat) (c:KQ9),f=[.str x,a.d,.str e,b.d,.ref h]/\Z9 M h=some c/\Fine n c/\OB b/\onS (stN c (.sum x a e b t)) (fun s=>Q s.1 M) (Z B .non M)
def Wp:DSp:=fun f M Q _=>∃(a:Opd) (e:Str) (b:Opd) (h n:Nat) (c:KQ9),f=[a.d,.str e,b.d,.ref h]/\Z9 M h=some c/\Fine n c/\Q (testT (wI c a) e (wI c b) (hld e (wI c a) (wI c b))) M
def Rn(B:Uc):DSp:=fun b M Q Z=>∃(d:Nd) (h n:Nat) (a:KQ9),b=[d.d,.ref h]/\Z9 M h=some a/\Fine n a/\NB d/\d.goes=true/\onS (stN a d) (fun s=>Q s.1 M) (Z B .non M)
def Bh(h:Nat)(g:D)(M:Z2)(Q:DK):Nd->Prop
 | .sum x _ _ _ t=>∃f e d c i v a,g= .tup [f,e,d,c,i,v]/\Z9 M h=some a/\a.length<sizeLine/\Q (.int (t:Nat)) (M.set h (.dct (putD a (Dq x) v)))
 | .test _ _ _ y n=>∃f e d c b,g= .tup [f,e,d,c,.bl b]/\Q (.int ((if b=true then y else n:Nat):Int)) M
 | .fin=>False
 | .spin=>False
def Rt:DSp:=fun b M Q _=>∃(n:Nd) (a:D) (h:Nat),b=[n.d,a,.ref h]/\Bh h a M Q n
section
variable{K:Ab}{J B:Uc}
def Zc7{Γ G}:∀ds M Q Z,Fv B qdiv ds M Q Z->tss ⟨K,Γ,.cls J:: .cls B::G⟩ Z O7 {nx:=fun _ M=>Q .non M,rt:=Q} (start0 Om ds) M:=by
 rintro ds M Q Z ⟨a,b,rfl,c,q⟩
 delta O7 Om
 symm
 by_cases h:b=0
 .rw[nh h] at q ⊢
  symm
  show q
 .rw[ng h] at q ⊢
  delta So
  symm
  show⟨⟨h,c⟩,q⟩
def Yu9{Γ G}:∀ds M Q Z,Fv B qmod ds M Q Z->tss ⟨K,Γ,.cls J:: .cls B::G⟩ Z Y64 {nx:=fun _ M=>Q .non M,rt:=Q} (start0 Y68 ds) M:=by
 rintro ds M Q Z ⟨a,b,rfl,c,q⟩
 delta Y64 Y68
 symm
 by_cases h:b=0
 .rw[nh h] at q ⊢
  symm
  show q
 .rw[ng h] at q ⊢
  delta Z19
  symm
  show⟨h,q⟩
def Yr6{Γ G}(g0:Γ[8]?=some (Fv B qdiv))(g1:Γ[9]?=some (Fv B qmod)):∀ds M Q Z,Z26 B ds M Q Z->tss ⟨K,Γ,G⟩ Z Y40 {nx:=fun _ M=>Q .non M,rt:=Q} (start0 Y74 ds) M:=by
 rintro ds M Q Z ⟨c,a,b,rfl,d,q⟩
 unfold mkS at q
 delta Y40 Y74
 symm
 by_cases h:c="+"
 .rw[nh h] at q ⊢
  symm
  show q
 rw[ng h] at q ⊢
 delta Z35
 symm
 by_cases h:c="-"
 .rw[nh h] at q ⊢
  symm
  show q
 rw[ng h] at q ⊢
 delta Bg
 symm
 by_cases h:c="/"
 .rw[nh h] at q ⊢
  symm
  refine⟨a,b,rfl,d,?_⟩
  split
  .rename_i e;rw[nh e] at q;show q
  .rename_i e;rw[ng e] at q;show q
 rw[ng h] at q ⊢
 delta Z14
 symm
 by_cases h:c="rest"
 .rw[nh h] at q ⊢
  symm
  refine⟨a,b,rfl,d,?_⟩
  split
  .rename_i e;rw[nh e] at q;show q
  .rename_i e;rw[ng e] at q;show q
 rw[ng h] at q ⊢
 delta Z00
 symm
 by_cases h:c="&"
 .rw[nh h] at q ⊢
  symm
  show q
 rw[ng h] at q ⊢
 delta Z36
 symm
 show q
def Yi3{Γ G}:Rd K Γ G Ny Zl0 Zq0:=by
 rintro ds M Q Z ⟨c,a,b,rfl,q⟩
 unfold hld at q
 delta Zl0 Zq0
 symm
 by_cases h:c="<"
 .rw[nh h] at q ⊢
  symm
  show q
 rw[ng h] at q ⊢
 delta Ed
 symm
 show q
def Yh3{Γ G}:Rd K Γ G W3 Zh9 Zl1:=by
 rintro ds M Q Z ⟨o,h,n,a,rfl,b,c,q⟩
 delta Zh9 Zl1
 cases o with
 | no i=>
  simp only[Opd.d]
  symm
  delta Gh
  symm
  show q
 | nm x=>
  simp only[Opd.d]
  symm
  refine⟨by rw[b];rfl,a,_,b,rfl,?_⟩
  rw[c.get]
  show q
def Nz{Γ G}(g2:Γ[10]?=some (Z26 B))(g4:Γ[12]?=some W3):∀ds M Q Z,Vs B ds M Q Z->tss ⟨K,Γ,G⟩ Z Vz {nx:=fun _ M=>Q .non M,rt:=Q} (start0 Tj ds) M:=by
 rintro ds M Q Z ⟨x,a,f,b,t,h,n,c,rfl,g,d,i,q⟩
 delta Vz Tj
 symm
 refine⟨a,h,n,c,rfl,g,d.mi,?_⟩
 symm
 refine⟨b,h,n,c,rfl,g,d.mi,?_⟩
 symm
 refine⟨f,_,_,rfl,d.log i,?_⟩
 rw[Qe] at q
 cases e:mkS f (wI c a) (wI c b) with
 | none=>rw[e] at q;show q
 | some w=>rw[e] at q;show⟨Z0 'd',q⟩
def Pk{Γ G}(g3:Γ[11]?=some Ny)(g4:Γ[12]?=some W3):Rd K Γ G Wp V7 V9:=by
 rintro ds M Q Z ⟨a,f,b,h,n,c,rfl,d,e,q⟩
 delta V7 V9
 symm
 refine⟨a,h,n,c,rfl,d,e.mi,?_⟩
 symm
 refine⟨b,h,n,c,rfl,d,e.mi,?_⟩
 symm
 show⟨f,_,_,rfl,Z0 'd',q⟩
def Zs5{Γ G}(g5:Γ[13]?=some (Vs B))(g6:Γ[14]?=some Wp):∀ds M Q Z,Rn B ds M Q Z->tss ⟨K,Γ,G⟩ Z Fc {nx:=fun _ M=>Q .non M,rt:=Q} (start0 Eb ds) M:=by
 rintro ds M Q Z ⟨d,h,n,c,rfl,f,i,j,g,q⟩
 delta Fc Eb
 cases d with
 | sum x a e b t=>
  simp only[Nd.d]
  symm
  show⟨x,a,e,b,t,h,n,c,rfl,f,i,j.2,q⟩
 | test a e b y z=>
  simp only[Nd.d]
  symm
  refine⟨_,rfl,?_⟩
  symm
  show⟨a,e,b,h,n,c,rfl,f,i,q⟩
 | fin=>cases g
 | spin=>cases g
def Y15{Γ G}:Rd K Γ G Rt Z07 Z09:=by
 rintro ds M Q Z ⟨n,p,h,rfl,q⟩
 delta Z07 Z09
 cases n with
 | sum x a e b t=>
  let⟨j,i,g,f,o,v,c,rfl,l,k,q⟩:=q
  simp only[Nd.d]
  symm
  refine .inr (.inl ⟨c,_,l,rfl,k,?_⟩)
  symm
  show q
 | test a e b y n=>
  let⟨j,i,g,f,m,rfl,q⟩:=q
  simp only[Nd.d]
  symm
  refine⟨_,rfl,?_⟩
  symm
  cases m with
  | true=>show q
  | false=>show q
 | fin=>show q.elim
 | spin=>show q.elim
end
def wrd:Option Nd->Str
 | some .fin=>"end"
 | _=>"on"
def runN(a:List Nd):Nat->Nat->KQ9->List D×Str×KQ9
 | 0,c,b=>([],wrd a[c]?,b)
 | k+1,c,b=>match a[c]? with
  | some n=>match stN b n with
   | some s=>(s.1::(runN a k s.2.2 s.2.1).1,(runN a k s.2.2 s.2.1).2)
   | none=>([],if n.goes=true then "fault" else wrd (some n),b)
  | none=>([],"on",b)
def G1{a:List Nd}{k pl:Nat}{b:KQ9}{n:Nd}{s:D×KQ9×Nat}(h:a[pl]?=some n)(e:stN b n=some s):runN a (k+1) pl b=(s.1::(runN a k s.2.2 s.2.1).1,(runN a k s.2.2 s.2.1).2):=by
 show(match a[pl]? with | some n=>(match stN b n with | some s=>(s.1::(runN a k s.2.2 s.2.1).1,(runN a k s.2.2 s.2.1).2) | none=>([],if n.goes=true then "fault" else wrd (some n),b)) | none=>([],"on",b))=_
 rw[h];dsimp only;rw[e]
def Bv{a:List Nd}{k pl:Nat}{b:KQ9}{n:Nd}(h:a[pl]?=some n)(g:n.goes=true)(e:stN b n=none):runN a (k+1) pl b=([],("fault":Str),b):=by
 show(match a[pl]? with | some n=>(match stN b n with | some s=>(s.1::(runN a k s.2.2 s.2.1).1,(runN a k s.2.2 s.2.1).2) | none=>([],if n.goes=true then "fault" else wrd (some n),b)) | none=>([],"on",b))=_
 rw[h];dsimp only;rw[e,g];rfl
def X2{a:List Nd}{k pl:Nat}{b:KQ9}{n:Nd}(h:a[pl]?=some n)(g:n.goes=false\/k=0):runN a k pl b=([],wrd (some n),b):=by
 cases k with
 | zero=>show([],wrd a[pl]?,b)=_;rw[h]
 | succ k=>
  have g:=g.resolve_right (Nat.succ_ne_zero k)
  have e:stN b n=none:=by cases n<;>first | rfl | cases g
  show(match a[pl]? with | some n=>(match stN b n with | some s=>(s.1::(runN a k s.2.2 s.2.1).1,(runN a k s.2.2 s.2.1).2) | none=>([],if n.goes=true then "fault" else wrd (some n),b)) | none=>([],"on",b))=_
  rw[h];dsimp only;rw[e,g];rfl
def Nd.gs:Nd->LQ
 | .sum _ _ _ _ t=>[t]
 | .test _ _ _ y n=>[n,y]
 | .fin=>[]
 | .spin=>[]
def Yp9(a:List Nd):Prop:=∀n∈a,NB n/\∀t∈n.gs,t<a.length
def Vv(m:KQ9)(k:Key)(v:D):(putD m k v).length<=m.length+1:=by
 unfold putD
 split
 .rw[Af];lia
 .rw[Ae,Ak];show nc _
def Zm9{n:Nat}{c:KQ9}{d:Nd}{s:D×KQ9×Nat}(h:MI n c)(g:64<=n)(f:NB d)(e:stN c d=some s):MI (n+1) s.2.1/\s.2.1.length<=c.length+1/\s.2.2∈d.gs:=by
 cases d with
 | sum x a i b t=>
  rw[Qe,Ch] at e
  let⟨w,e,rfl⟩:=e
  show⟨h.put _ (Zq8 (h.wth g f.1) (h.wth g f.2) e),Vv _ _ _,by simp[Nd.gs]⟩
 | test a i b y z=>
  cases e
  refine⟨h.mono 'o',by dsimp only;lia,?_⟩
  dsimp only
  split<;>simp[Nd.gs]
 | fin=>cases e
 | spin=>cases e
def Tq:DSp:=fun h M Q _=>∃(a f g b:Nat) (c:List Nd) (e:KQ9),h=[.ref a,.int (f:Nat),.ref g,.int (b:Nat)]/\Z7 M a=some (c.map Nd.d)/\Z9 M g=some e/\Yp9 c/\f<c.length/\MI 1064 e/\e.length<=500/\b<=1000/\
 Q (.tup [.ref (M.length+1),.str (runN c b f e).2.1,.ref M.length]) (M++[.dct (runN c b f e).2.2,.lst (runN c b f e).1])
section
variable{K:Ab}{J B:Uc}
def Zb3{Γ G}(hc:Catch K B B true)(g7:Γ[15]?=some Rt)(g8:Γ[16]?=some (Rn B)):∀ds M Q Z,Tq ds M Q Z->tss ⟨K,Γ,.cls J:: .cls B::G⟩ noX N7 {nx:=fun _ M=>Q .non M,rt:=Q} (start0 Pw ds) M:=by
 rintro ds M Q Z ⟨a,p0,mm,most,nds,kvs,rfl,ha,hd,ok,hp0,mi0,kl0,hmost,q⟩
 delta N7 Pw
 symm
 refine .inl ⟨kvs,hd,?_⟩
 symm
 refine⟨Z0 'd',?_⟩
 symm
 rw[show(M++[Cell.dct kvs]:Z2).length=M.length+1 by simp,As,Hx,Ir]
 have rN:∀c d,Z7 (M++[c,d]) a=some (nds.map Nd.d):=fun c d=>Ze ha
 have rH:∀kv d,Z9 (M++[.dct kv,d]) M.length=some kv:=fun kv d=>Y5 _ _ _
 have rDs:∀c xs,Z4 (M++[c,.lst xs]) (M.length+1)=some xs:=fun c xs=>by rw[Yj];rfl
 have sDs:∀c e xs,(M++[c,e]:Z2).set (M.length+1) (.lst xs)=M++[c,.lst xs]:=fun c e xs=>by rw[Rq];rfl
 have sH:∀c e d,(M++[c,e]:Z2).set M.length d=M++[d,e]:=fun c e d=>Xe _ _ _ _
 have get:∀{i:Nat} {n:Nd},nds[i]?=some n->(nds.map Nd.d)[i]?=some n.d:=fun h=>by rw[Ao,h];rfl
 refine⟨fun k σ M'=>∃(pl:Nat) (kv:KQ9) (dsd:LD) (d7:Option D),σ=[↑a,some (.int (p0:Nat)),↑mm,some (.int (most:Nat)),↑M.length,some (.ref (M.length+1)),some (.int (pl:Nat)),d7,none]/\M'=M++[.dct kv,.lst dsd]/\dsd.length+k=most/\pl<nds.length/\MI (1064+dsd.length) kv/\kv.length<=500+dsd.length/\(dsd++(runN nds k pl kv).1,(runN nds k pl kv).2)=runN nds most p0 kvs,
  ⟨most,p0,kvs,[],none,rfl,rfl,Nat.zero_add _,hp0,mi0,kl0,rfl⟩,?_⟩
 rintro k σ M' ⟨pl,kv,dsd,d7,rfl,rfl,hk,hpl,mi,kl,inv⟩
 obtain⟨n,hn⟩:∃n,nds[pl]?=some n:=⟨_,Ag hpl⟩
 let⟨nb,ngs⟩:=ok n (Ax hn)
 have out:n.goes=false\/k=0->tss ⟨K,Γ,.cls J:: .cls B::G⟩ noX Wn {nx:=fun _ M=>Q .non M,rt:=Q} [↑a,some (.int (p0:Nat)),↑mm,some (.int (most:Nat)),↑M.length,some (.ref (M.length+1)),some (.int (pl:Nat)),d7,none] (M++[.dct kv,.lst dsd]):=by
  intro hg
  have q':=q
  rw[<-inv,X2 hn hg,Du] at q'
  delta Wn
  symm
  refine ix_l (rN _ _) (get hn) ?_
  cases n with
  | fin=>
   simp only[Nd.d]
   symm
   show⟨Z0 'd',q'⟩
  | _=>
   simp only[Nd.d]
   symm
   show⟨Z0 'd',q'⟩
 have tests:∀(T E0:Z2->Prop),(n.goes=true->0<k->T (M++[.dct kv,.lst dsd]))->(n.goes=false\/k=0->E0 (M++[.dct kv,.lst dsd]))->
   ixD (M++[.dct kv,.lst dsd]) (.ref a) (.int (pl:Nat)) fun d=>ixD (M++[.dct kv,.lst dsd]) d (.int 0) fun d=>2<=sizeLine/\inQ (M++[.dct kv,.lst dsd]) d (.tup [.str "sum",.str "test"]) fun r=>
    if r=true then bfD K .len [.ref (M.length+1)] (M++[.dct kv,.lst dsd]) fun z M1=>cmD M1 .lt z (.int (most:Nat)) fun r=>if r=true then T M1 else E0 M1
    else if r=true then T (M++[.dct kv,.lst dsd]) else E0 (M++[.dct kv,.lst dsd]):=by
  intro T E0 hT hE
  have yes:∀(r:Bool),r=true->n.goes=true->(if r=true then bfD K .len [.ref (M.length+1)] (M++[.dct kv,.lst dsd]) fun z M1=>cmD M1 .lt z (.int (most:Nat)) fun r=>if r=true then T M1 else E0 M1
    else if r=true then T (M++[.dct kv,.lst dsd]) else E0 (M++[.dct kv,.lst dsd])):=by
   rintro r rfl hg
   rw[nh rfl]
   refine Zg (Z1 (rDs _ _)) ?_
   change if decide ((dsd.length:Int)< (most:Int))=true then _ else _
   by_cases hl:dsd.length<most
   .rw[nh ↥hl]
    show hT hg 'o'
   .rw[ng ↥hl]
    show hE (.inr 'o')
  refine ix_l (rN _ _) (get hn) ?_
  cases n with
  | fin=>show⟨_,rfl,Z0 'd',rfl,rfl,hE (.inl rfl)⟩
  | spin=>show⟨_,rfl,Z0 'd',rfl,rfl,hE (.inl rfl)⟩
  | sum y o1 sg o2 t=>show⟨_,rfl,Z0 'd',rfl,rfl,yes _ rfl rfl⟩
  | test o1 sg o2 t1 t2=>show⟨_,rfl,Z0 'd',rfl,rfl,yes _ rfl rfl⟩
 symm
 refine tests _ _ (fun hg hk0=>?_) out
 obtain⟨k,rfl⟩:∃k',k=k'+1:=⟨k - 1,'o'⟩
 try dsimp only
 delta R0
 symm
 refine ix_l (rN _ _) (get hn) ?_
 symm
 refine⟨n,M.length,1064+dsd.length,kv,rfl,rH _ _,⟨mi,'o','o'⟩,nb,hg,?_⟩
 cases e:stN kv n with
 | none=>
  refine⟨hc,?_⟩
  symm
  refine⟨Z0 'd',?_⟩
  rw[<-inv,Bv hn hg e,Du] at q
  show q
 | some s=>
  let⟨mi',len',gs'⟩:=Zm9 mi 'o' nb e
  rw[G1 hn e] at inv
  have hs:=ngs _ gs'
  change _
  dsimp only[onS]
  symm
  delta R7
  symm
  refine⟨Z5 (Z1 (rDs _ _)),_,rDs _ _,Z3 'o',?_⟩
  rw[sDs]
  symm
  refine ix_l (rN _ _) (get hn) ?_
  symm
  have fin:∀d7,∃m',m'<k+1/\∃(pl:Nat) (kv':KQ9) (dsd':LD) (d:Option D),[↑a,some (.int (p0:Nat)),↑mm,some (.int (most:Nat)),↑M.length,some (.ref (M.length+1)),some (.int (s.2.2:Nat)),d7,none]=[↑a,some (.int (p0:Nat)),↑mm,some (.int (most:Nat)),↑M.length,some (.ref (M.length+1)),some (.int (pl:Nat)),d,none]/\(M++[.dct s.2.1,.lst (dsd++[s.1])]:Z2)=M++[.dct kv',.lst dsd']/\dsd'.length+m'=most/\pl<nds.length/\MI (1064+dsd'.length) kv'/\kv'.length<=500+dsd'.length/\(dsd'++(runN nds m' pl kv').1,(runN nds m' pl kv').2)=runN nds most p0 kvs:=by
   intro d7
   refine⟨k,'o',s.2.2,s.2.1,dsd++[s.1],d7,rfl,rfl,by rw[Ae,Ak];lia,hs,by rw[Ae,Ak];show mi',by rw[Ae,Ak];lia,?_⟩
   rw[<-inv,As]
   rfl
  cases n with
  | sum x o1 sg o2 t=>
   rw[Qe,Ch] at e
   let⟨w,e,rfl⟩:=e
   refine⟨_,_,M.length,rfl,_,_,_,_,_,_,_,rfl,rH _ _,Z3 'o',?_⟩
   rw[sH]
   symm
   show fin _
  | test o1 sg o2 y z=>
   cases e
   refine⟨_,_,M.length,rfl,_,_,_,_,_,rfl,?_⟩
   symm
   show fin _
  | fin=>cases hg
  | spin=>cases hg
end
def rn(r:Rw):Nd:=r.node [] (fun _=>0) 0
def RB(r:Rw):Prop:=NB (rn r)
def Y02{c:List Rw}(h:RwOk c)(q:∀r∈c,RB r){L:Nat->Nat}(i:Lands c L):Yp9 (Zz c L):=by
 intro n s
 let⟨p,j,e⟩:=List.mem_iff_getElem.mp s
 rw[Yv] at j
 obtain⟨r,f⟩:∃r,c[p]?=some r:=⟨_,Ag j⟩
 have m:=Yh (L:=L) f
 rw[Ag (by rw[Yv];show j),e] at m
 cases m
 have l:=(q r (Ax f))
 rw[Yv]
 cases r with
 | sum k x a o b=>show⟨l,fun t d=>by cases Am.mp d;show i.lt _ (h.last _ _ f rfl)⟩
 | test k a o b g=>
  refine⟨l,fun t d=>?_⟩
  rcases An.mp d with rfl | d
  .exact i.lt _ (h.last _ _ f rfl)
  .cases Am.mp d;show i.lt _ (Z23 (h.goal _ (Ax f) g rfl))
 | jump k g=>show⟨trivial,fun t d=>by cases d⟩
 | fin k=>show⟨trivial,fun t d=>by cases d⟩
def Told(R:List D×Str×KQ9)(M:Z2)(Q:DK):Prop:=∀a r h,Kp M a->Z4 a r=some R.1->Z9 a h=some R.2.2->M.length<=r->M.length<=h->Q (.tup [.ref r,.str R.2.1,.ref h]) a
def Zf4:DSp:=fun g M Q _=>∃(a f c:Nat) (b:List Rw) (e:KQ9),g=[.ref a,.ref f,.int (c:Nat)]/\Z7 M a=some (b.map Rw.d)/\RwOk b/\(∀r∈b,RB r)/\Z9 M f=some e/\MI 1064 e/\e.length<=500/\c<=1000/\
 ∀L,Lands b L->Told (runN (Zz b L) c (L 0) e) M Q
def Yx:DSp:=fun i M Q _=>∃(C:Nat->Prop) (g:List T) (r:Nat) (e:LD) (c:CS) (a:List Raw) (h b:Nat) (d:KQ9),i=[.ref r,.ref h,.int (b:Nat)]/\Z4 M r=some e/\RTs C M g e/\(∀c,C c->c<M.length)/\(fls g).length<=1000/\crun c0 (fls g)=some c/\(c.t++[Pr.fin]).map (res c.f)=a.map some/\
 RwOk (Yp a)/\(∀r∈Yp a,RB r)/\Z9 M h=some d/\MI 1064 d/\d.length<=500/\b<=1000/\
 ∀L,Lands (Yp a) L->Told (runN (Zz (Yp a) L) b (L 0) d) M Q
def Told.of{M b:Z2}(h:Told R M Q)(k:Kp M b):Told R b Q:=fun i r a e g f d c=>h i r a (k.trans e) g f (nj k.len d) (nj k.len c)
section
variable{K:Ab}
def Yx9{Γ G}(g9:Γ[17]?=some Tq)(g11:Γ[19]?=some Rx):Rd K Γ G Zf4 Yv1 Yr7:=by
 rintro ds M Q Z ⟨a,i,c,b,f,rfl,o,d,h,n,j,k,m,q⟩
 delta Yv1 Yr7
 symm
 refine⟨a,b,rfl,o,d,fun L s r e g l p=>?_⟩
 symm
 refine⟨r,L 0,i,c,_,f,rfl,Z1 l,g.D n,Y02 d h e,by rw[Yv];show e.lt _ d.pos,j,k,m,?_⟩
 have:=g.len
 show q L e _ _ _ (g.app _) (by rw[Yj];rfl) (Y5 _ _ _) 'o' this
def Zd2{Γ G}(g9:Γ[20]?=some Zf4)(g11:Γ[7]?=some Rl):Rd K Γ G Yx Oj Pu:=by
 rintro ds M Q Z ⟨C,f,r,e,c,a,j,b,d,rfl,y,x,w,v,u,t,i,g,s,l,n,p,q⟩
 delta Oj Pu
 symm
 refine⟨C,f,r,e,c,a,rfl,y,x,w,v,u,t,fun A h k o z=>?_⟩
 symm
 show⟨h,j,b,_,d,rfl,Z1 o,i,g,k.D s,l,n,p,fun L m=>(q L m).of k⟩
def Zu7{Γ G}:Rd K Γ G W3 Z53 Z27:=by
 rintro ds M Q Z ⟨o,h,n,a,rfl,b,c,q⟩
 delta Z53 Z27
 cases o with
 | no i=>
  simp only[Opd.d]
  symm
  delta N4
  symm
  show q
 | nm x=>
  simp only[Opd.d]
  symm
  refine⟨by rw[b];rfl,a,_,b,rfl,?_⟩
  rw[c.get]
  show q
def oD:Option Int->D
 | some v=> .int v
 | none=> .non
def Cj:DSp:=fun d M Q _=>∃(c:Str) (a b:Int),d=[.str c,.int a,.int b]/\c∈six/\b.natAbs.log2<9000/\Q (oD (mkS c a b)) M
def Yh7{Γ G}:Rd K Γ G Cj Zs9 Zr8:=by
 rintro ds M Q Z ⟨e,a,b,rfl,c,d,q⟩
 simp only[six,An,Df,or_false] at c
 unfold mkS at q
 delta Zs9 Gj E1 Et Fy Gr C7 Zr8
 rcases c with rfl | rfl | rfl | rfl | rfl | rfl
 .symm
  show q
 .symm
  show q
 .symm
  rw[ng 'k',ng 'k',nh rfl] at q
  by_cases z:b=0
  .rw[nh z] at q ⊢;show q
  .rw[ng z] at q ⊢
   symm
   show⟨⟨z,d⟩,q⟩
 .symm
  rw[ng 'k',ng 'k',ng 'k',nh rfl] at q
  by_cases z:b=0
  .rw[nh z] at q ⊢;show q
  .rw[ng z] at q ⊢
   symm
   show⟨z,q⟩
 .symm
  show q
 .symm
  show q
def dnL(kvs:KQ9):Ln->D
 | .cond a s b=>testT (wI kvs a) s (wI kvs b) (hld s (wI kvs a) (wI kvs b))
 | .sum x a s b=> .tup [.str "sum",.str x,.int (wI kvs a),.str s,.int (wI kvs b),oD (mkS s (wI kvs a) (wI kvs b))]
 | _=> .non
def GoL:Ln->Prop
 | .cond _ s _=>s∈two
 | .sum _ _ s b=>s∈six/\OB b
 | _=>False
def Cz:DSp:=fun b M Q _=>∃(l:Ln) (h n:Nat) (a:KQ9),b=[l.d,.ref h]/\Z9 M h=some a/\Fine n a/\GoL l/\Q (dnL a l) M
def Yj0{Γ G}(g1:Γ[44]?=some W3)(g2:Γ[45]?=some Cj):Rd K Γ G Cz Zq5 Zs4:=by
 rintro ds M Q Z ⟨l,h,n,kvs,rfl,hd,fi,go,q⟩
 delta Zq5 Eg Zs4
 cases l with
 | cond a s b=>
  simp only[Ln.d]
  symm
  refine⟨_,rfl,a,h,n,kvs,rfl,hd,fi.mi,?_⟩
  symm
  refine⟨_,rfl,b,h,n,kvs,rfl,hd,fi.mi,?_⟩
  symm
  have go:s="<"\/s="=":=by simpa only[GoL,two,An,Df,or_false] using go
  have q:Q (testT (wI kvs a) s (wI kvs b) (hld s (wI kvs a) (wI kvs b))) M:=q
  rcases go with rfl | rfl
  .rw[show hld "<" (wI kvs a) (wI kvs b)=decide (wI kvs a<wI kvs b) from nh rfl] at q
   rw[nh rfl]
   by_cases z:wI kvs a<wI kvs b
   .rw[ng (fun n=>n z)];show⟨Z0 'd',q⟩
   .rw[nh z,ng 'k',show decide (("<":Str)="=")=false by decide+kernel]
    rw[mf z] at q
    show⟨Z0 'd',q⟩
  .rw[show hld "=" (wI kvs a) (wI kvs b)=decide (wI kvs a=wI kvs b) from ng 'k'] at q
   rw[ng 'k',nh 'k',nh rfl]
   show⟨Z0 'd',q⟩
 | sum x a s b=>
  simp only[Ln.d]
  symm
  refine⟨_,rfl,a,h,n,kvs,rfl,hd,fi.mi,?_⟩
  symm
  refine⟨_,rfl,b,h,n,kvs,rfl,hd,fi.mi,?_⟩
  symm
  refine⟨s,_,_,rfl,go.1,fi.log go.2,?_⟩
  show⟨Z0 'd',q⟩
 | _=>show go.elim
end
open LN CY
def Raw.isJ:Raw->Bool
 | .jump _=>true
 | _=>false
def Sr{f:Lb->Option Nat}{a:Lb}{v n:Nat}(h:∀b w,f b=some w->w<=n)(c:v<=n):∀b w,up f a v b=some w->w<=n:=by
 intro b w e
 unfold up at e
 split at e
 .cases e;show c
 .exact h b w e
def Ya8{f:Lb->Option Nat}{a:Lb}{v n:Nat}(h:∀b w,f b=some w->w<=n)(c:v<=n):∀b w,up0 f a v b=some w->w<=n:=by
 unfold up0
 split
 .exact h
 .exact Sr h c
def Yf8{c c':CS}{l:Ln}(h:cst c l=some c')(d:∀b w,c.f b=some w->w<=c.t.length):∀b w,c'.f b=some w->w<=c'.t.length:=by
 have g:∀{m},c.t.length<=m->∀b w,c.f b=some w->w<=m:=fun i b w e=>nj (d b w e) i
 cases l with
 | cond a s b=>cases h;dsimp only;rw[Ae,Ae];show Sr (g (by simp only[Ak];lia)) (by simp)
 | rnd n=>cases h;show Sr d (nc _)
 | prt n=>cases h;show Sr d (nc _)
 | els=>
  let⟨t,f,o⟩:=c
  cases o with
  | nil=>cases h
  | cons e r=>
   cases e with
   | cho n=>cases h;dsimp only;rw[Ae];show Sr (g (by simp)) (by simp)
   | home b n=>cases h
 | don=>
  let⟨t,f,o⟩:=c
  cases o with
  | nil=>cases h
  | cons e r=>
   cases e with
   | cho n=>cases h;show Sr (Ya8 d (nc _)) (nc _)
   | home b n=>
    cases b with
    | true=>cases h;dsimp only;rw[Ae];show Sr (g (by simp)) (by simp)
    | false=>cases h;show Sr d (nc _)
 | _=>cases h;dsimp only;rw[Ae];show g (by simp)
def Y55(ls:LG):∀k,∀b w,(q2 ls k).c.f b=some w->w<=ph ls k
 | 0,b,w,h=>by cases h
 | k+1,b,w,h=>by
  have a:=Y55 ls k
  cases e:ls[k]? with
  | none=>rw[Qa (Dp.mp e)] at h;unfold ph;rw[Qa (Dp.mp e)];show a b w h
  | some l=>
   unfold ph
   rw[Zt e] at h ⊢
   unfold q2s at h ⊢
   dsimp only at h ⊢
   split at h
   .rw[nh (by assumption)];show a b w h
   .rw[ng (by assumption)]
    cases d:cst (q2 ls k).c l with
    | none=>rw[d] at h;show a b w h
    | some g=>rw[d] at h;show Yf8 d a b w h
structure Ad(ls:LG)(k:Nat)(l:Ln)(ps:List Pr):Prop where
 e:(q2 ls (k+1)).c.t=(q2 ls k).c.t++ps
 r:∀p∈ps,(res (GF ls) p).isSome=true
 s:(stop l=false/\(ps=[]\/∃a,ps=[.jump a]))\/(∃x a s b,l= .sum x a s b/\ps=[.sum x a s b])\/(l= .fin/\ps=[.fin])\/∃a s b,l= .cond a s b/\ps=[.test a s b (.yes,(ph ls k:Nat)),.jump (.no,(ph ls k:Nat))]
def Yy8{m:Nat}(g:Gd m ls){k:Nat}{l:Ln}(h:ls[k]?=some l):∃ps,Ad ls k l ps:=by
 have hk:=(Ac.mp h).1
 have js:∀{a v},GF ls a=some v->∀p∈[Pr.jump a],(res (GF ls) p).isSome=true:=fun e p hp=>by rw[Am.mp hp];show((GF ls _).map _).isSome=true;rw[e];rfl
 have no:∀p∈([]:List Pr),(res (GF ls) p).isSome=true:=fun p hp=>by cases hp
 cases l with
 | sum x a s b=>show⟨[.sum x a s b],by rw[Zt h];rfl,fun p hp=>by rw[Am.mp hp];rfl,.inr (.inl ⟨_,_,_,_,rfl,rfl⟩)⟩
 | fin=>show⟨[.fin],by rw[Zt h];rfl,fun p hp=>by rw[Am.mp hp];rfl,.inr (.inr (.inl ⟨rfl,rfl⟩))⟩
 | rnd n=>show⟨[],by rw[Zt h,Du];rfl,no,.inl ⟨rfl,.inl rfl⟩⟩
 | prt n=>show⟨[],by rw[Zt h,Du];rfl,no,.inl ⟨rfl,.inl rfl⟩⟩
 | cond a s b=>
  let⟨j,_,_,C⟩:=Vk g h rfl
  let⟨_,_,_,hy⟩:=Bt g h
  have hn:∃v,GF ls (.no,(ph ls k:Nat))=some v:=by
   rcases C.2.2.2 with⟨c,n,d,_⟩ | ⟨_,_,_,⟨_,d⟩ | ⟨e,_,d⟩⟩
   .rw[h] at d;cases c<;>cases d
   .exact⟨_,d⟩
   .exact⟨_,d⟩
  let⟨v,hn⟩:=hn
  refine⟨[.test a s b (.yes,(ph ls k:Nat)),.jump (.no,(ph ls k:Nat))],?_,fun p hp=>?_,.inr (.inr (.inr ⟨_,_,_,rfl,rfl⟩))⟩
  .rw[Zt h]
   show(q2 ls k).c.t++[_]++[_]=_
   rw[As]
   rfl
  .rcases An.mp hp with rfl | hp
   .show((GF ls _).map _).isSome=true;rw[hy];rfl
   .exact js hn p hp
 | els=>
  let⟨ss,s1,I,nx,_,_,_⟩:=goL g h
  let⟨tl,n,rfl,rfl⟩:=nx
  rw[Dl] at I
  let⟨_,_,s,e1,⟨a,x,b,hc⟩,e3,e4,e5⟩:=I.els h
  let⟨j,_,_,C⟩:=Vk g hc rfl
  rcases e5 with⟨_,e5⟩ | e5
  .let⟨y,hy⟩:=Cw ls k
   have hy0:y=[]:=by
    have:=congrArg Mh hy
    rw[Ae] at this
    unfold ph at e5
    show List.eq_nil_of_length_eq_zero 'o'
   show⟨[],by rw[<-hy,hy0],no,.inl ⟨rfl,.inl rfl⟩⟩
  .have hb:∃v,GF ls (.beh,(ph ls s:Nat))=some v:=by
    rcases C.2.2.2 with⟨c,n,d,_⟩ | ⟨_,_,d,_⟩
    .rw[hc] at d;cases c<;>cases d
    .exact⟨_,d⟩
   let⟨v,hb⟩:=hb
   show⟨_,e5,js hb,.inl ⟨rfl,.inr ⟨_,rfl⟩⟩⟩
 | don=>
  let⟨s,l',hl',_,C⟩:=Nc g h
  have nil:ph ls (k+1)=ph ls k->∃ps,Ad ls k .don ps:=by
   intro e5
   let⟨y,hy⟩:=Cw ls k
   have hy0:y=[]:=by
    have:=congrArg Mh hy
    rw[Ae] at this
    unfold ph at e5
    show List.eq_nil_of_length_eq_zero 'o'
   show⟨[],by rw[<-hy,hy0],no,.inl ⟨rfl,.inl rfl⟩⟩
  rcases C.2.2.2 with⟨c,n,d1,d2,d3,d4⟩ | ⟨_,d2,_⟩
  .cases c with
   | true=>show⟨_,d4,js (X6 g true d1).2.1,.inl ⟨rfl,.inr ⟨_,rfl⟩⟩⟩
   | false=>show nil d4
  .exact nil d2
 | lve n=>
  let⟨s,c,hc,_⟩:=V4 (b:=false) (n:=n) g h fun ss z=>z.imp id fun z=>⟨rfl,z⟩
  let⟨j,_,_,C⟩:=Vk g hc (by cases c<;>rfl)
  have hb:∃v,GF ls (.lve,n)=some v:=by
   rcases C.2.2.2 with⟨c',n',d1,_,d3,_⟩ | ⟨⟨a,x,b,d1⟩,_⟩
   .rw[hc] at d1;cases c<;>cases c'<;>cases d1<;>show⟨_,d3⟩
   .rw[hc] at d1;cases c<;>cases d1
  let⟨v,hb⟩:=hb
  show⟨[.jump (.lve,n)],by rw[Zt h];rfl,js hb,.inl ⟨rfl,.inr ⟨_,rfl⟩⟩⟩
 | agn n=>
  let⟨s,c,hc,_⟩:=V4 (b:=true) (n:=n) g h fun ss z=> .inl z
  show⟨[.jump (.agn,n)],by rw[Zt h];rfl,js (X6 g c hc).2.1,.inl ⟨rfl,.inr ⟨_,rfl⟩⟩⟩
def Yj3{ls:LG}{k:Nat}{l:Ln}(h:ls[k]?=some l):ls.take (k+1)=ls.take k++[l]:=Xa h
def dD:Pr->Option D
 | .sum x a s b=>some (Ln.sum x a s b).d
 | .test a s b _=>some (Ln.cond a s b).d
 | .fin=>some Ln.fin.d
 | .jump _=>none
def pJ:Pr->Bool
 | .jump _=>true
 | _=>false
section
variable{ls:LG}{m:Nat}
def Y37(g:Gd m ls):∀k,k<=ls.length->(∀p∈(q2 ls k).c.t,(res (GF ls) p).isSome=true)/\(q2 ls k).c.t.filterMap dD=((ls.take k).filter stop).map Ln.d
 | 0,_=>⟨fun p f=>(by cases f),rfl⟩
 | k+1,o=>by
  let⟨l,j⟩:=Y37 g k 'o'
  have h:ls[k]?=some ls[k]:=Ag 'o'
  let⟨n,A⟩:=Yy8 g h
  rw[A.e,Yj3 h,List.filterMap_append,List.filter_append,Aw,j]
  refine⟨fun p f=>(Az.mp f).elim (l p) (A.r p),?_⟩
  congr 1
  rcases A.s with⟨i,rfl | ⟨a,rfl⟩⟩ | ⟨x,a,s,b,e,rfl⟩ | ⟨e,rfl⟩ | ⟨a,s,b,e,rfl⟩
  .rw[List.filter_cons_of_neg (by rw[i];show Bf9)];rfl
  .rw[List.filter_cons_of_neg (by rw[i];show Bf9)];rfl
  .rw[e];rfl
  .rw[e];rfl
  .rw[e];rfl
def Z18{g d:Type}{f:g->Option d}:∀{l:List g},(∀p∈l,(f p).isSome=true)->∃c:List d,l.map f=c.map some
 | [],_=>⟨[],rfl⟩
 | a::l,h=>by
  let⟨c,e⟩:=Z18 fun p j=>h p (Av _ j)
  have:=h a Bs
  cases i:f a with
  | none=>rw[i] at this;cases this
  | some b=>show⟨b::c,by rw[De,i,e];rfl⟩
def Yo3(g:Gd m ls):∃a,Rws ls a:=by
 let⟨h,_⟩:=Y37 g ls.length (nc _)
 refine Z18 fun p b=>?_
 rcases Az.mp b with b | b
 .exact h p b
 .rw[Am.mp b];rfl
def Y61{f:Lb->Option Nat}{p:Pr}(h:res f p=some r):r.isJ=pJ p/\(∀t,r= .jump t->∃a,f a=some t)/\∀a s b t,r= .test a s b t->∃a,f a=some t:=by
 cases p with
 | sum x a s b=>cases h;show⟨rfl,fun t z=>(by cases z),fun _ _ _ _ z=>(by cases z)⟩
 | fin=>cases h;show⟨rfl,fun t z=>(by cases z),fun _ _ _ _ z=>(by cases z)⟩
 | test a s b l=>
  let⟨v,c,rfl⟩:=Ch.mp (show(f l).map _=some r from h)
  show⟨rfl,fun t z=>(by cases z),fun _ _ _ _ z=>by cases z;show⟨l,c⟩⟩
 | jump l=>
  let⟨v,c,rfl⟩:=Ch.mp (show(f l).map _=some r from h)
  show⟨rfl,fun t z=>(by cases z;show⟨l,c⟩),fun _ _ _ _ z=>by cases z⟩
variable{raws:List Raw}
def Rws.get(h:Rws ls raws){i:Nat}(e:raws[i]?=some r):∃p,(TT ls++[Pr.fin])[i]?=some p/\res (GF ls) p=some r:=by
 have:=congrArg (fun l=>l[i]?) h
 try dsimp only at this
 rw[Ao,Ao,e] at this
 cases a:(TT ls++[Pr.fin])[i]? with
 | none=>rw[a] at this;cases this
 | some p=>rw[a] at this;show⟨p,rfl,Dg this⟩
def Rws.lt(h:Rws ls raws){a:Lb}{t:Nat}(e:GF ls a=some t):t<raws.length:=by
 have:=Y55 ls ls.length a t e
 rw[h.len]
 show Nat.lt_succ_of_le this
end
open LN CY
def Yk3{c c':CS}{l:Ln}(h:cst c l=some c'):c'.t.length<=c.t.length+2:=by
 cases l with
 | els=>
  let⟨t,f,o⟩:=c
  cases o with
  | nil=>cases h
  | cons e r=>
   cases e with
   | cho n=>cases h;simp
   | home b n=>cases h
 | don=>
  let⟨t,f,o⟩:=c
  cases o with
  | nil=>cases h
  | cons e r=>
   cases e with
   | cho n=>cases h;simp
   | home b n=>cases b<;>cases h<;>simp
 | _=>cases h;simp
def Y60(ls:LG):∀k,ph ls k<=2 * k
 | 0=>nc _
 | k+1=>by
  have a:=Y60 ls k
  unfold ph at a ⊢
  cases e:ls[k]? with
  | none=>rw[Qa (Dp.mp e)];lia
  | some l=>
   rw[Zt e]
   show(if skp l _ then(q2 ls k).c else(cst (q2 ls k).c l).getD (q2 ls k).c).t.length<=_
   split
   .lia
   .cases h:cst (q2 ls k).c l with
    | none=>show(q2 ls k).c.t.length<=_;lia
    | some b=>have:=Yk3 h;change b.t.length<=_;lia
def Pc(a:List Raw):(Yp a).map Rw.num=Ik a.length:=by
 refine List.ext_getElem? fun i=>?_
 rw[Ao]
 by_cases h:i<a.length
 .rw[Yl (Ag h),List.getElem?_range h]
  cases a[i]<;>rfl
 .rw[Dh (by rw[Y1];lia),Dh (by rw[List.length_range];lia)];rfl
def posR{a:List Raw}{t:Nat}(h:t<a.length):Ci (Yp a) t=t:=by
 unfold Ci
 rw[Pc]
 have c:=List.idxOf_lt_length_of_mem (Il.mpr h)
 have b:=List.getElem_idxOf c
 rw[List.getElem_range] at b
 show b
section
variable{ls:LG}{m:Nat}{raws:List Raw}
def Yt1(g:Gd m ls){k:Nat}(h:isC ls k):noP ls k<=ls.length:=by
 let⟨a,s,b,h⟩:=h
 let⟨j,f,_,C⟩:=Vk g h rfl
 unfold noP
 cases e:FF ls (.els,(k:Nat)) with
 | none=>dsimp only;rw[C.2.1];change j+1<=_;lia
 | some c=>
  let⟨d,I⟩:=I2.of g (nc ls.length)
  have:=(I.el k c e).1
  dsimp only
  lia
def Yr1(g:Gd m ls)(hr:Rws ls raws){k:Nat}(h:isC ls k):JR raws (ph ls k+1)=some (ph ls (noP ls k)):=by
 let⟨a,s,b,h⟩:=h
 let⟨j,j1,_,C⟩:=Vk g h rfl
 let⟨_,h2,_,_⟩:=Bt g h
 have:GF ls (.no,(ph ls k:Nat))=some (ph ls (noP ls k)):=by
  unfold noP
  rcases C.2.2.2 with⟨c,n,d,_⟩ | ⟨_,d1,_,⟨d2,d3⟩ | ⟨e,d2,d3⟩⟩
  .rw[h] at d;cases c<;>cases d
  .rw[d2];dsimp only;rw[C.2.1];change _=some (ph ls (j+1));rw[d1];show d3
  .rw[d2];show d3
 show JR_j (hr.jump h2 this)
def Yg4(g:Gd m ls)(d:Rws ls raws){k:Nat}{a:Opd}{s:Str}{b:Opd}(h:ls[k]?=some (.cond a s b)):raws[ph ls k]?=some (.test a s b (ph ls (k+1))):=by
 let⟨i,_,_,f⟩:=Bt g h
 let⟨r,e,c⟩:=d.at i
 change (GF ls _).map (Raw.test a s b)=some r at c
 rw[f] at c
 cases c
 show e
def Z87(a:Rws ls raws){k:Nat}(h:k<=ls.length):ph ls k<raws.length:=by
 have:=Jr ls h
 have:raws.length=ph ls ls.length+1:=a.len
 lia
def Rws.goal(h:Rws ls raws){p:Nat}(e:raws[p]?=some r):(∀t,r= .jump t->t<raws.length)/\∀a s b t,r= .test a s b t->t<raws.length:=by
 let⟨q,_,d⟩:=h.get e
 show⟨fun t z=>(by let⟨a,c⟩:=(Y61 d).2.1 t z;show h.lt c),fun a s b t z=>by let⟨a,c⟩:=(Y61 d).2.2 _ _ _ _ z;show h.lt c⟩
def Jm{p:Nat}(e:(Yp raws)[p]?=some r):∃x,raws[p]?=some x/\r=x.rw p:=by
 let⟨a,_⟩:=Ac.mp e
 rw[Y1] at a
 refine⟨_,Ag a,?_⟩
 rw[Yl (Ag a)] at e
 show(Dg e).symm
def jmpR(h:Rws ls raws)(p:Nat):jmp (Yp raws) p=JR raws p:=by
 unfold jmp JR
 cases e:raws[p]? with
 | none=>rw[Dh (by rw[Y1];show Dp.mp e)]
 | some r=>
  rw[Yl e]
  cases r with
  | jump t=>show congrArg some (posR ((h.goal e).1 t rfl))
  | _=>rfl
def Rws.ok(h:Rws ls raws)(k:ls.length<=400):RwOk (Yp raws):=by
 have j:raws.length=ph ls ls.length+1:=h.len
 have:=Y60 ls ls.length
 refine⟨by rw[Y1];lia,by rw[Y1];lia,by rw[Pc];show List.nodup_range,?_,?_⟩
 .intro r f g d
  let⟨p,e⟩:=List.mem_iff_getElem?.mp f
  let⟨x,c,rfl⟩:=Jm e
  rw[Pc,Il]
  cases x with
  | jump t=>cases d;show(h.goal c).1 _ rfl
  | test a s b t=>cases d;show(h.goal c).2 _ _ _ _ rfl
  | _=>cases d
 .intro p r e d
  let⟨x,c,rfl⟩:=Jm e
  let⟨i,_⟩:=Ac.mp c
  rw[Y1]
  have:p≠ph ls ls.length:=by
   rintro rfl
   rw[h.end] at c
   cases c
   cases d
  lia
def cm(ls:LG)(p:Nat):Option Nat:=open Classical in if h:∃q,Orb (NX ls) p q/\NX ls q=none then some h.choose else none
def Qf{p q:Nat}(o:Orb (NX ls) p q)(h:NX ls q=none):cm ls p=some q:=by
 unfold cm
 have e:∃q,Orb (NX ls) p q/\NX ls q=none:=⟨q,o,h⟩
 rw[dif_pos e]
 let⟨a,b⟩:=e.choose_spec
 rcases fork o a with z | z
 .rw[Rz h z]
 .rw[<-Rz b z]
def Cs{p l:Nat}(o:Orb (NX ls) p l)(c:Cyc (NX ls) l):cm ls p=none:=by
 unfold cm
 rw[dif_neg]
 rintro⟨q,a,b⟩
 show Zf3 a b o c
def cmV:Option Nat->Int
 | some q=>(q:Nat)
 | none=> -1
def CN.is{p:Nat}{v:Int}(h:CN ls p v):v=cmV (cm ls p)/\∀q,cm ls p=some q->NX ls q=none/\q<=ls.length:=by
 rcases h with⟨q,rfl,o,e,l⟩ | ⟨rfl,l,o,c⟩
 .rw[Qf o e];show⟨rfl,fun q' z=>by cases z;show⟨e,l⟩⟩
 .rw[Cs o c];show⟨rfl,fun q z=>by cases z⟩
end
open LN CY
def wdF(ls:LG):Option Nat->Str
 | some q=>match ls[q]? with
  | some (.sum _ _ _ _)=>"on"
  | some (.cond _ _ _)=>"on"
  | _=>"end"
 | none=>"on"
def runF(ls:LG):Nat->Option Nat->KQ9->List D×Str×KQ9
 | 0,o,c=>([],wdF ls o,c)
 | _+1,none,c=>([],"on",c)
 | k+1,some q,c=>match ls[q]? with
  | some (.sum x a s b)=>match mkS s (wI c a) (wI c b) with
   | none=>([],"fault",c)
   | some w=>(sumT x (wI c a) s (wI c b) w::(runF ls k (cm ls (q+1)) (putD c (Dq x) (.int w))).1,(runF ls k (cm ls (q+1)) (putD c (Dq x) (.int w))).2)
  | some (.cond a s b)=>(testT (wI c a) s (wI c b) (hld s (wI c a) (wI c b))::(runF ls k (cm ls (if hld s (wI c a) (wI c b)=true then q+1 else noP ls q)) c).1,(runF ls k (cm ls (if hld s (wI c a) (wI c b)=true then q+1 else noP ls q)) c).2)
  | _=>([],"end",c)
section
variable{ls:LG}{m:Nat}{raws:List Raw}{L:Nat->Nat}
def Yw2(g:Gd m ls){p q:Nat}(h:NX ls p=some q):q<=ls.length:=by
 let⟨l,e,b,_⟩:=Zw5 h
 let⟨d,a,c⟩:=Yb7 g e b
 rw[h] at a;cases a;show c
def Y51(g:Gd m ls){p q:Nat}(o:Orb (NX ls) p q)(b:p<=ls.length):q<=ls.length:=by
 induction o with
 | refl _=>show b
 | step e _ a=>show a (Yw2 g e)
def Z42(g:Gd m ls)(h:NX ls q=none)(b:q<=ls.length):q=ls.length\/∃l,ls[q]?=some l/\stop l=true:=by
 rcases Nat.lt_or_eq_of_le b with z | z
 .refine .inr ⟨_,Ag z,?_⟩
  cases e:stop ls[q] with
  | true=>rfl
  | false=>let⟨c,a,_⟩:=Yb7 g (Ag z) e;rw[h] at a;cases a
 .exact .inl z
def Z31(ls:LG)(p:Nat):(∃q,Orb (NX ls) p q/\NX ls q=none)\/∃l,Orb (NX ls) p l/\Cyc (NX ls) l:=by
 refine Classical.byCases (p:=∃q,Orb (NX ls) p q/\NX ls q=none) .inl fun c=> .inr ?_
 have b:∀k,∃x,it (NX ls) k p=some x:=by
  intro k
  induction k with
  | zero=>show⟨p,rfl⟩
  | succ k d=>
   let⟨x,a⟩:=d
   cases e:NX ls x with
   | none=>show(c ⟨x,Re a,e⟩).elim
   | some y=>show⟨y,by rw[V6,a];show(NX ls x).bind _=_;rw[e];rfl⟩
 let⟨x,a⟩:=b (ls.length+1)
 show⟨x,Re a,Y75 (fun p q z=>by let⟨l,e,_⟩:=Zw5 z;show(Ac.mp e).1) a⟩
set_option tactic.hygienic true in
def F9(b:Rws ls raws)(c:Lands (Yp raws) L){x y:Nat}(o:Orb (JR raws) x y)(e:JR raws y=none)(d:x<raws.length):L x=y:=by
 induction o with
 | refl _=>show c.no _ (by rw[Y1];show d) (by rw[jmpR b];show e)
 | step a _ f=>
  rw[c.yes _ _ (by rw[Y1];show d) (by rw[jmpR b];show a)]
  refine f e ?_
  unfold JR at a
  split at a
  .rename_i t h;cases a;show(b.goal h).1 _ rfl
  .cases a
set_option tactic.hygienic true in
def Em(f:Rws ls raws)(b:Lands (Yp raws) L){x y:Nat}(o:Orb (JR raws) x y)(c:Cyc (JR raws) y)(d:x<raws.length):(Zz (Yp raws) L)[L x]?=some .spin:=by
 have a:=b.orb x (by rw[Y1];show d)
 rw[show jmp (Yp raws)=JR raws from funext (jmpR f)] at a
 cases e:JR raws (L x) with
 | none=>show(Zf3 a e o c).elim
 | some t=>
  unfold JR at e
  split at e
  .rename_i g h;rw[Yh (Yl h)];rfl
  .cases e
def Jd(g:Gd m ls)(d:Rws ls raws){x:Str}{a:Opd}{s:Str}{b:Opd}(h:ls[q]?=some (.sum x a s b)):(Zz (Yp raws) L)[ph ls q]?=some (.sum x a s b (L (ph ls (q+1)))):=by
 let⟨r,f,c⟩:=G5 g d h rfl
 have e:ph ls (q+1)=ph ls q+1:=Zi4 (p:= .sum x a s b) (by rw[Zt h];rfl)
 cases r with
 | sum i l j k=>let⟨rfl,rfl,rfl,rfl⟩:=c;rw[Yh (Yl f),e];rfl
 | _=>show c.elim
def Fq(g:Gd m ls)(c:Rws ls raws)(i:Lands (Yp raws) L){a:Opd}{s:Str}{b:Opd}(h:ls[q]?=some (.cond a s b)):(Zz (Yp raws) L)[ph ls q]?=some (.test a s b (L (ph ls (q+1))) (L (ph ls (noP ls q)))):=by
 have d:=(Ac.mp h).1
 have f:isC ls q:=⟨a,s,b,h⟩
 have j:=Yr1 g c f
 have e:=i.yes (ph ls q+1) _ (by rw[Y1];have:=Z87 c (show q+1<=ls.length from d);have:=ph_C f;lia) (by rw[jmpR c];show j)
 rw[Yh (Yl (Yg4 g c h)),<-e]
 change some (Nd.test a s b (L (Ci (Yp raws) (ph ls (q+1)))) _)=_
 rw[posR (Z87 c d)]
def Ru(g:Gd m ls)(a:Rws ls raws)(h:ls[q]?=some .fin\/q=ls.length):(Zz (Yp raws) L)[ph ls q]?=some .fin:=by
 rcases h with h | rfl
 .let⟨r,c,b⟩:=G5 g a h rfl
  cases r with
  | fin=>rw[Yh (Yl c)];rfl
  | _=>show b.elim
 .rw[Yh (Yl a.end)];rfl
def Yo6(g:Gd m ls)(hr:Rws ls raws)(ln:Lands (Yp raws) L):∀k p kv,p<=ls.length->runN (Zz (Yp raws) L) k (L (ph ls p)) kv=runF ls k (cm ls p) kv:=by
 intro k
 induction k with
 | zero=>
  intro p kv hp
  rcases Z31 ls p with⟨q,o,e⟩ | ⟨l,o,c⟩
  .rw[Qf o e,F9 hr ln (Ja (Z78 g hr) o) (Yt2 g hr q e) (Z87 hr hp)]
   rcases Z42 g e (Y51 g o hp) with h | ⟨l,h,hs⟩
   .rw[X2 (Ru g hr (.inr h)) (.inr rfl)]
    change _=([],(match ls[q]? with | some (.sum _ _ _ _)=>("on":Str) | some (.cond _ _ _)=>"on" | _=>"end"),kv)
    rw[Dh 'o'];rfl
   .change _=([],(match ls[q]? with | some (.sum _ _ _ _)=>("on":Str) | some (.cond _ _ _)=>"on" | _=>"end"),kv)
    rw[h]
    cases l with
    | sum x a s b=>rw[X2 (Jd g hr h) (.inr rfl)];rfl
    | cond a s b=>rw[X2 (Fq g hr ln h) (.inr rfl)];rfl
    | fin=>rw[X2 (Ru g hr (.inl h)) (.inr rfl)];rfl
    | _=>cases hs
  .rw[Cs o c,X2 (Em hr ln (Ja (Z78 g hr) o) (Zp8 (Z78 g hr) c) (Z87 hr hp)) (.inr rfl)];rfl
 | succ k ih=>
  intro p kv hp
  rcases Z31 ls p with⟨q,o,e⟩ | ⟨l,o,c⟩
  .rw[Qf o e,F9 hr ln (Ja (Z78 g hr) o) (Yt2 g hr q e) (Z87 hr hp)]
   rcases Z42 g e (Y51 g o hp) with h | ⟨l,h,hs⟩
   .rw[X2 (Ru g hr (.inr h)) (.inl rfl)]
    unfold runF
    rw[Dh 'o'];rfl
   .have hq:=(Ac.mp h).1
    cases l with
    | sum x a s b=>
     cases w:mkS s (wI kv a) (wI kv b) with
     | none=>
      rw[Bv (Jd g hr h) rfl (by rw[Qe,w];rfl)]
      unfold runF
      rw[h];dsimp only;rw[w]
     | some w'=>
      rw[G1 (Jd g hr h) (by rw[Qe,w];rfl)]
      dsimp only
      rw[ih _ _ hq]
      change _=runF ls (k+1) (some q) kv
      conv=>rhs;unfold runF
      rw[h];dsimp only;rw[w]
    | cond a s b=>
     rw[G1 (Fq g hr ln h) rfl]
     dsimp only
     conv=>rhs;unfold runF
     rw[h];dsimp only
     cases hld s (wI kv a) (wI kv b) with
     | true=>rw[nh rfl,nh rfl,ih _ _ hq]
     | false=>rw[ng Bf9,ng Bf9,ih _ _ (Yt1 g ⟨a,s,b,h⟩)]
    | fin=>
     rw[X2 (Ru g hr (.inl h)) (.inl rfl)]
     unfold runF
     rw[h];rfl
    | _=>cases hs
  .rw[Cs o c,X2 (Em hr ln (Ja (Z78 g hr) o) (Zp8 (Z78 g hr) c) (Z87 hr hp)) (.inl rfl)];rfl
end
open LN CY
def LB:Ln->Prop
 | .cond a s b=>s∈two/\OB a/\OB b
 | .sum _ a s b=>s∈six/\OB a/\OB b
 | _=>True
def Z29:DSp:=fun f M Q _=>∃(r e a:Nat) (c:LG) (b:KQ9),f=[.ref r,.ref e,.int (a:Nat)]/\Z7 M r=some (c.map Ln.d)/\Gd 89 c/\c.length<=400/\(∀l∈c,LB l)/\Z9 M e=some b/\MI 1064 b/\b.length<=500/\a<=1000/\Told (runF c a (cm c 0) b) M Q
def Je{k:Nat}{a:KQ9}(h:k=0\/o=none\/∃q,o=some q/\(ls[q]?=none\/ls[q]?=some .fin)):runF ls k o a=([],wdF ls o,a):=by
 cases k with
 | zero=>rfl
 | succ k=>
  rcases h with h | rfl | ⟨q,rfl,h | h⟩
  .cases h
  .rfl
  .have e:wdF ls (some q)="end":=by unfold wdF;dsimp only;rw[h]
   rw[e];unfold runF;rw[h]
  .have e:wdF ls (some q)="end":=by unfold wdF;dsimp only;rw[h]
   rw[e];unfold runF;rw[h]
def Z39{k p:Nat}{c:KQ9}{x:Str}{a:Opd}{s:Str}{b:Opd}(h:ls[p]?=some (.sum x a s b))(w:mkS s (wI c a) (wI c b)=none):runF ls (k+1) (some p) c=([],("fault":Str),c):=by
 unfold runF;rw[h];dsimp only;rw[w]
def Jl{k p:Nat}{c:KQ9}{x:Str}{a:Opd}{s:Str}{b:Opd}(h:ls[p]?=some (.sum x a s b))(e:mkS s (wI c a) (wI c b)=some w):runF ls (k+1) (some p) c=(sumT x (wI c a) s (wI c b) w::(runF ls k (cm ls (p+1)) (putD c (Dq x) (.int w))).1,(runF ls k (cm ls (p+1)) (putD c (Dq x) (.int w))).2):=by
 conv=>lhs;unfold runF
 rw[h];dsimp only;rw[e]
def En{k p:Nat}{c:KQ9}{a:Opd}{s:Str}{b:Opd}(h:ls[p]?=some (.cond a s b)):runF ls (k+1) (some p) c=(testT (wI c a) s (wI c b) (hld s (wI c a) (wI c b))::(runF ls k (cm ls (if hld s (wI c a) (wI c b)=true then p+1 else noP ls p)) c).1,(runF ls k (cm ls (if hld s (wI c a) (wI c b)=true then p+1 else noP ls p)) c).2):=by
 conv=>lhs;unfold runF
 rw[h]
def Z46(p:Nat):cmV (some p)=(p:Nat):=rfl
def Y9{a c:Nat}{x:Cell}(h:a≠c):Z9 (M.set a x) c=Z9 M c:=by unfold Z9;rw[Yd h]
def Yt{a c:Nat}{x:Cell}(h:a≠c):Z4 (M.set a x) c=Z4 M c:=by unfold Z4;rw[Yd h]
def Nb{M:Z2}{a:Nat}{x:KQ9}(h:a<M.length):Z9 (M.set a (.dct x)) a=some x:=by unfold Z9;rw[Di h]
def LB.go{l:Ln}(h:LB l)(s:stop l=true)(n:l≠ .fin):GoL l/\wd l≠"end":=by
 cases l with
 | sum x a s b=>show⟨⟨h.1,h.2.2⟩,by simp only[wd];decide+kernel⟩
 | cond a s b=>show⟨h.1,by simp only[wd];decide+kernel⟩
 | fin=>show(n rfl).elim
 | _=>cases s
def Yn8{p:Nat}{l:Ln}(e:ls[p]?=some l)(s:stop l=true)(n:l≠ .fin):wdF ls (some p)="on":=by
 unfold wdF;dsimp only;rw[e]
 cases l with
 | sum x a s b=>rfl
 | cond a s b=>rfl
 | fin=>show(n rfl).elim
 | _=>cases s
section
variable{K:Ab}{Γ:List DSp}{G:LD}
def Yq1(g1:Γ[37]?=some Jt)(g2:Γ[39]?=some Ji)(g3:Γ[40]?=some spNo)(g4:Γ[46]?=some Cz):Rd K Γ G Z29 Y67 Y50:=by
 rintro ds M Q Z ⟨r,mm,most,ls,kvs,rfl,hr,g,hl,lb,hd,mi0,kl0,hmost,q⟩
 delta Y67 Y50
 symm
 refine⟨r,89,ls,rfl,hr,g,hl,fun mk M1 mr k1 hm pm=>?_⟩
 symm
 refine .inl ⟨kvs,k1.D hd,?_⟩
 symm
 refine⟨Z0 'd',?_⟩
 symm
 rw[show(M1++[Cell.dct kvs]:Z2).length=M1.length+1 by simp,As,Hx,Ir]
 have mks:Mks ls r mr M1:=⟨g,hl,k1.pL hr,mk,hm,pm⟩
 have kA:Kp M1 (M1++[.dct kvs,.lst []]):=Ks.new _ _
 refine⟨ls,r,mr,0,rfl,mks.ks kA,nl _,fun v M2 hc k2=>?_⟩
 let⟨rfl,hq⟩:=hc.is
 symm
 refine⟨fun k σ M'=>∃(o:Option Nat) (kv:KQ9) (dsd:LD) (d6:Option D),σ=[↑r,↑M1.length,some (.int (most:Nat)),↑mr,some (.ref (M1.length+1)),some (.int (cmV o)),d6]/\Kp M1 M'/\Z9 M' M1.length=some kv/\Z4 M' (M1.length+1)=some dsd/\(∀q,o=some q->NX ls q=none/\q<=ls.length)/\dsd.length+k=most/\MI (1064+dsd.length) kv/\kv.length<=500+dsd.length/\(dsd++(runF ls k o kv).1,(runF ls k o kv).2)=runF ls most (cm ls 0) kvs,
  ⟨most,_,kvs,[],none,rfl,kA.trans k2,k2.D (Y5 _ _ _),k2.W (by rw[Yj];rfl),hq,Nat.zero_add _,mi0,kl0,rfl⟩,?_⟩
 rintro k σ M' ⟨o,kv,dsd,d6,rfl,kM,hh,hds,hq,hk,mi,kl,inv⟩
 have mks':=mks.ks kM
 have out:(k=0\/o=none\/∃q,o=some q/\(ls[q]?=none\/ls[q]?=some .fin))->tss ⟨K,Γ,G⟩ noX J1 {nx:=fun _ M=>Q .non M,rt:=Q} [↑r,↑M1.length,some (.int (most:Nat)),↑mr,some (.ref (M1.length+1)),some (.int (cmV o)),d6] M':=by
  intro hg
  rw[<-inv,Je hg,Du] at q
  have q':Q (.tup [.ref (M1.length+1),.str (wdF ls o),.ref M1.length]) M':=q _ _ _ (k1.trans kM) hds hh (by have:=k1.len;lia) k1.len
  delta J1 Bp
  cases o with
  | none=>
   symm
   rw[ng 'd']
   symm
   show⟨Z0 (by change 3<=_;decide),q'⟩
  | some p=>
   simp only[Z46]
   symm
   rw[nh (Int.natCast_nonneg p)]
   refine Zg mks'.r ?_
   rw[Af]
   symm
   let⟨hN,hpl⟩:=hq p rfl
   rcases Z42 g hN hpl with rfl | ⟨l,hlp,hst⟩
   .rw[show wdF ls (some ls.length)="end" by unfold wdF;dsimp only;rw[Dh (nc _)]] at q'
    rw[ng (fun z=>z rfl),nh rfl]
    show⟨Z0 'd',q'⟩
   .have hpp:=(Ac.mp hlp).1
    rw[nh 'o']
    refine mks'.at hlp (Zw9 ?_)
    by_cases hf:l= .fin
    .subst hf
     rw[show wdF ls (some p)="end" by unfold wdF;dsimp only;rw[hlp]] at q'
     symm
     rw[nh (by simp only[wd])]
     show⟨Z0 'd',q'⟩
    .rw[Yn8 hlp hst hf] at q'
     symm
     rw[ng ((lb _ (Ax hlp)).go hst hf).2]
     symm
     show⟨Z0 (by change 3<=_;decide),q'⟩
 cases o with
 | none=>
  symm
  rw[ng 'd',ng 'd']
  show out (.inr (.inl rfl))
 | some p=>
  let⟨hN,hpl⟩:=hq p rfl
  simp only[Z46] at out ⊢
  symm
  rw[nh (Int.natCast_nonneg p)]
  refine Zg mks'.r ?_
  rw[Af]
  rcases Z42 g hN hpl with rfl | ⟨l,hlp,hst⟩
  .have o2:=out (.inr (.inr ⟨_,rfl,.inl (Dh (nc _))⟩))
   symm
   rw[ng (Int.lt_irrefl _),ng (Int.lt_irrefl _)]
   show o2
  .have hpp:=(Ac.mp hlp).1
   symm
   rw[nh 'o']
   refine mks'.at hlp (Zw9 ?_)
   by_cases hf:l= .fin
   .subst hf
    have o2:=out (.inr (.inr ⟨_,rfl,.inr hlp⟩))
    symm
    rw[ng (fun z=>z (by simp only[wd])),ng (fun z=>z (by simp only[wd]))]
    show o2
   .have lbl:=lb _ (Ax hlp)
    let⟨go,wne⟩:=(lb _ (Ax hlp)).go hst hf
    symm
    rw[nh wne]
    refine Zg (Z1 hds) ?_
    symm
    by_cases hlm:dsd.length<most
    .rw[nh 'o']
     obtain⟨k,rfl⟩:∃k',k=k'+1:=⟨k - 1,'o'⟩
     delta Z30
     symm
     refine mks'.at hlp ?_
     symm
     refine⟨l,M1.length,1064+dsd.length,kv,rfl,hh,⟨mi,'o','o'⟩,go,?_⟩
     have hdl:M1.length+1<M'.length:=by
      refine Nat.lt_of_not_le fun z=>?_
      unfold Z4 at hds
      rw[Dh z] at hds
      cases hds
     have hhl:=Xo hh
     cases l with
     | sum x a s b=>
      simp only[dnL]
      cases w:mkS s (wI kv a) (wI kv b) with
      | none=>
       simp only[oD]
       symm
       refine⟨_,rfl,?_⟩
       symm
       rw[<-inv,Z39 hlp w,Du] at q
       show⟨Z0 'd',q _ _ _ (k1.trans kM) hds hh (by have:=k1.len;lia) k1.len⟩
      | some w'=>
       simp only[oD]
       symm
       refine⟨_,rfl,?_⟩
       symm
       delta Jy
       symm
       refine⟨Z5 (Z1 hds),_,hds,Z3 'o',?_⟩
       symm
       refine .inr (.inl ⟨kv,_,by rw[Y9 'o'];show hh,rfl,Z3 'o',?_⟩)
       symm
       have kM2:=(kM.set (c:= .lst (dsd++[sumT x (wI kv a) s (wI kv b) w'])) (.inr (mh M1.length))).set (c:= .dct (putD kv (Dq x) (.int w'))) (.inr (nc M1.length))
       refine⟨ls,r,mr,p+1,rfl,mks.ks kM2,hpp,fun v M2 hc k2=>?_⟩
       let⟨rfl,hq2⟩:=hc.is
       symm
       rw[Jl hlp w] at inv
       refine⟨k,'o',cm ls (p+1),putD kv (Dq x) (.int w'),dsd++[sumT x (wI kv a) s (wI kv b) w'],_,rfl,kM2.trans k2,k2.D (Nb (by rw[Dx];show hhl)),k2.W (by rw[Yt 'o',Zh hdl];rfl),hq2,?_,?_,?_,?_⟩
       .rw[Ae,Ak];lia
       .rw[Ae,Ak];show mi.put _ (Zq8 (mi.wth 'o' lbl.2.1) (mi.wth 'o' lbl.2.2) w)
       .have:=Vv kv (Dq x) (.int w');rw[Ae,Ak];lia
       .rw[<-inv,As];rfl
     | cond a s b=>
      simp only[dnL,testT]
      symm
      refine⟨_,rfl,?_⟩
      symm
      delta Jy
      symm
      refine⟨Z5 (Z1 hds),_,hds,Z3 'o',?_⟩
      symm
      have kM2:=kM.set (c:= .lst (dsd++[testT (wI kv a) s (wI kv b) (hld s (wI kv a) (wI kv b))])) (.inr (mh M1.length))
      rw[En hlp] at inv
      generalize hld s (wI kv a) (wI kv b)=bb at inv kM2 ⊢
      have fin:∀(dv:D) (y:Nat) (v:Int) M2,cm ls (if bb=true then p+1 else noP ls p)=cm ls y->CN ls y v->Kp (M'.set (M1.length+1) (.lst (dsd++[testT (wI kv a) s (wI kv b) bb]))) M2->∃m',m'<k+1/\∃(o:Option Nat) (kv:KQ9) (dsd:LD) (d6':Option D),[↑r,↑M1.length,some (.int (most:Nat)),↑mr,some (.ref (M1.length+1)),some (.int v),some dv]=[↑r,↑M1.length,some (.int (most:Nat)),↑mr,some (.ref (M1.length+1)),some (.int (cmV o)),d6']/\Kp M1 M2/\Z9 M2 M1.length=some kv/\Z4 M2 (M1.length+1)=some dsd/\(∀q,o=some q->NX ls q=none/\q<=ls.length)/\dsd.length+m'=most/\MI (1064+dsd.length) kv/\kv.length<=500+dsd.length/\(dsd++(runF ls m' o kv).1,(runF ls m' o kv).2)=runF ls most (cm ls 0) kvs:=by
       intro dv y v M2 hy hc k2
       let⟨rfl,hq2⟩:=hc.is
       rw[hy] at inv
       refine⟨k,'o',cm ls y,kv,dsd++[testT (wI kv a) s (wI kv b) bb],_,rfl,kM2.trans k2,k2.D (by rw[Y9 'o'];show hh),k2.W (by rw[Zh hdl]),hq2,?_,?_,?_,?_⟩
       .rw[Ae,Ak];lia
       .rw[Ae,Ak];show mi.mono 'o'
       .rw[Ae,Ak];lia
       .rw[<-inv,As];rfl
      cases bb with
      | true=>
       rw[nh rfl]
       refine⟨ls,r,mr,p+1,rfl,mks.ks kM2,hpp,fun v M2 hc k2=>?_⟩
       symm
       show fin _ (p+1) v M2 (by rw[nh rfl]) hc k2
      | false=>
       rw[ng Bf9]
       symm
       refine⟨ls,r,mr,p,rfl,mks.ks kM2,⟨a,s,b,hlp⟩,?_⟩
       symm
       refine⟨ls,r,mr,noP ls p,rfl,mks.ks kM2,Yt1 g ⟨a,s,b,hlp⟩,fun v M2 hc k2=>?_⟩
       symm
       show fin _ (noP ls p) v M2 (by rw[ng Bf9]) hc k2
     | _=>show go.elim
    .rw[ng 'o']
     show out (.inl 'o')
end
def KI(kvs:KQ9):Prop:=∀k v,(k,v)∈kvs->valD kvs k=some v/\∃j,v= .int j
def Zx6{m:KQ9}{x k:Key}{w v:D}(h:(k,v)∈putD m x w):(k=x/\v=w)\/(k≠x/\(k,v)∈m):=by
 unfold putD at h
 split at h
 .let⟨⟨a,b⟩,f,c⟩:=Hy.mp h
  dsimp only at c
  split at c
  .rename_i e;cases c;show .inl ⟨e,rfl⟩
  .rename_i e;cases c;show .inr ⟨e,f⟩
 .rename_i d
  rcases Az.mp h with h | h
  .refine .inr ⟨fun e=>d ?_,h⟩
   rw[Le]
   show⟨_,h,by simp[e]⟩
  .cases Am.mp h;show .inl ⟨rfl,rfl⟩
def KI.put{m:KQ9}(h:KI m)(x:Key)(i:Int):KI (putD m x (.int i)):=by
 intro k v e
 rw[V0]
 rcases Zx6 e with⟨rfl,rfl⟩ | ⟨a,e⟩
 .rw[nh rfl];show⟨rfl,i,rfl⟩
 .rw[ng (Au a)];show h k v e
def Dd(d:D):Prop:=∃l,d= .tup l/\l.all fN=true
def Os(ls:LG):∀k o c,KI c->KI (runF ls k o c).2.2/\(runF ls k o c).2.2.length<=c.length+k/\(runF ls k o c).1.length<=k/\∀d∈(runF ls k o c).1,Dd d:=by
 intro k
 induction k with
 | zero=>intro o c h;show⟨h,nc _,nc _,fun d f=>by cases f⟩
 | succ k p=>
  intro o c h
  have n:∀w:Str,KI (([],w,c):List D×Str×KQ9).2.2/\(([],w,c):List D×Str×KQ9).2.2.length<=c.length+(k+1)/\(([],w,c):List D×Str×KQ9).1.length<=k+1/\∀d∈(([],w,c):List D×Str×KQ9).1,Dd d:=fun w=>⟨h,by dsimp only;lia,nl _,fun d f=>by cases f⟩
  cases o with
  | none=>show n "on"
  | some q=>
   have g:∀w:Str,runF ls (k+1) (some q) c=([],w,c)->KI (runF ls (k+1) (some q) c).2.2/\(runF ls (k+1) (some q) c).2.2.length<=c.length+(k+1)/\(runF ls (k+1) (some q) c).1.length<=k+1/\∀d∈(runF ls (k+1) (some q) c).1,Dd d:=fun w e=>by rw[e];show n w
   cases e:ls[q]? with
   | none=>show g _ (Je (.inr (.inr ⟨q,rfl,.inl e⟩)))
   | some l=>
    cases l with
    | sum x a s b=>
     cases w:mkS s (wI c a) (wI c b) with
     | none=>show g _ (Z39 e w)
     | some m=>
      let⟨j,t,r,i⟩:=p (cm ls (q+1)) (putD c (Dq x) (.int m)) (h.put _ _)
      have:=Vv c (Dq x) (.int m)
      rw[Jl e w]
      refine⟨j,by dsimp only;lia,by dsimp only;rw[Ar];lia,fun d f=>?_⟩
      rcases An.mp f with rfl | f
      .exact⟨_,rfl,rfl⟩
      .exact i d f
    | cond a s b=>
     let⟨j,t,r,i⟩:=p (cm ls (if hld s (wI c a) (wI c b)=true then q+1 else noP ls q)) c h
     rw[En e]
     refine⟨j,by dsimp only;lia,by dsimp only;rw[Ar];lia,fun d f=>?_⟩
     rcases An.mp f with rfl | f
     .exact⟨_,rfl,rfl⟩
     .exact i d f
    | _=>show g "end" (by unfold runF;rw[e])
def Fa:DSp:=fun d M Q _=>∃(a b:Nat) (c:KQ9),d=[.ref a,.ref b]/\Z9 M a=some c/\Z9 M b=some c/\a≠b/\KI c/\Q (.bl true) M
def AL.dd{d:D}(h:Dd d):AL M 1 d d:=by
 let⟨l,rfl,f⟩:=h
 refine .inr (.inl ⟨l,l,rfl,rfl,rfl,fun i a b e c=>?_⟩)
 rw[e] at c
 cases c
 show⟨rfl,Hm.mp f _ (Ax e)⟩
def AL.dds{r s:Nat}{l:LD}(g:Z4 M r=some l)(f:Z4 M s=some l)(h:∀d∈l,Dd d):AL M 2 (.ref r) (.ref s):=
 .inr (.inr ⟨r,s,l,l,rfl,rfl,g,f,rfl,fun i a b e c=>by rw[e] at c;cases c;show AL.dd (h _ (Ax e))⟩)
def Ek:DSp:=fun b M Q _=>∃(r s g h:Nat) (l:LD) (w:Str) (a:KQ9),b=[.tup [.ref r,.str w,.ref g],.tup [.ref s,.str w,.ref h]]/\Z4 M r=some l/\Z4 M s=some l/\(∀d∈l,Dd d)/\Z9 M g=some a/\Z9 M h=some a/\g≠h/\KI a/\Q (.bl true) M
section
variable{K:Ab}
def Yb6{Γ G n}(g15:Γ[41]?=some (Xd n)):Rd K Γ G Fa V8 V5:=by
 rintro ds M Q Z ⟨a,b,c,rfl,u,h,s,D,q⟩
 have A:∀{t:Ty} {B:Bool->Prop},isD K M (.ref a) (.ty (Ym t)) B=B (tyDct t):=fun{t B}=>Ym4 u
 delta V8 V5
 symm
 simp only[A]
 symm
 refine .inr ⟨c,u,.inr ⟨c,h,?_⟩⟩
 symm
 delta Xu
 symm
 refine⟨c,h,?_⟩
 have r:=Vy h
 have d:b<M.length:=Xo h
 have w:(M.set b (.fdc c))[b]?=some (.fdc c):=by rw[Di d]
 have y:Z9 (M.set b (.fdc c)) a=some c:=by rw[Eu (Au s)];show u
 have f:(M.set b (.fdc c)).set b (.dct c)=M:=by
  rw[List.set_set]
  apply List.ext_getElem?
  intro i
  by_cases e:b=i
  .subst e;rw[Di d,r]
  .rw[Db e]
 refine Vj (fun i g m=>∃l,g=[↑a,↑b,l]/\m=M.set b (.fdc c)) ⟨none,rfl,rfl⟩ ?_ ?_ ?_
 .rintro i g m _ ⟨l,rfl,rfl⟩
  show⟨c,w,rfl⟩
 .rintro i J g m C o ⟨l,rfl,rfl⟩ I
  unfold Jg at o
  rw[Ao,Ch] at o
  let⟨⟨k,v⟩,E,rfl⟩:=o
  let⟨x,j,rfl⟩:=D k v (Ax E)
  have z:keyD (kD k)=some k:=by cases k<;>rfl
  delta Xx
  symm
  have p:∀F:Bool->Prop,F true->inQ (M.set b (.fdc c)) (kD k) (.ref a) F:=by
   intro F H
   cases k<;>show .inr (.inl ⟨c,_,y,rfl,by rw[x];show H⟩)
  refine p _ ?_
  symm
  refine ix_d y z x (ix_f w z x ?_)
  symm
  refine⟨_,_,rfl,AL.flat rfl,?_⟩
  symm
  show I _ _ ⟨_,rfl,rfl⟩
 .rintro g m ⟨l,rfl,rfl⟩
  refine⟨c,w,?_⟩
  rw[f]
  delta Xw
  symm
  show q
def Yh6{Γ G n}(f:2<=n)(g21:Γ[41]?=some (Xd n))(g22:Γ[43]?=some Fa):Rd K Γ G Ek Zr6 Zi5:=by
 rintro ds M Q Z ⟨r,s,g,h,l,w,a,rfl,e,d,k,j,i,b,c,q⟩
 delta Zr6 Zi5
 symm
 rw[ng (fun z=>z rfl)]
 symm
 delta Ew
 symm
 refine⟨_,_,rfl,(AL.dds e d k).up f,?_⟩
 symm
 refine⟨_,_,rfl,AL.flat rfl,?_⟩
 symm
 delta Fn
 symm
 show⟨g,h,a,rfl,j,i,b,c,q⟩
end
def Zn3:DSp:=fun e M Q _=>∃(a r:Nat),e=[.ref a,.ref r]/\Scr M a/\Nms M r/\∀b d c,MI 64 b->KI b->b.length<=5->Kp M d->Z9 d c=some b->M.length<=c->Q (.ref c) d
def MI.put64(h:MI 64 kvs)(k:Key){i:Int}(hi:Bits 64 i):MI 64 (putD kvs k (.int i)):=by
 intro j v e
 rw[V0] at e
 split at e
 .cases e;show⟨i,rfl,hi⟩
 .exact h j v e
section
variable{K:Ab}{Γ:List DSp}{G:LD}
def Zd9(g1:Γ[22]?=some Z88)(g2:Γ[23]?=some Gs):Rd K Γ G Zn3 E8 Fe:=by
 rintro ds M Q Z ⟨a,r,rfl,B,F,q⟩
 delta E8 Fe
 symm
 refine⟨'d','d',?_⟩
 rw[show Int.toNat 5=5 from rfl]
 refine Xm (fun i t n=>∃(b:KQ9) (f d:Option D),t=[↑a,↑r,↑M.length,f,d]/\Kp M n/\Z9 n M.length=some b/\MI 64 b/\KI b/\b.length<=i) ⟨[],none,none,rfl,Ks.new _ _,Y5 _ _ _,(fun k v e=>by cases e),(fun k v e=>by cases e),nc _⟩ ?_ ?_
 .rintro i t n P L ⟨b,f,d,rfl,k,c,o,p,j⟩ E
  rw[tg_one]
  let⟨l,S,R,C⟩:=F.ks k (fun z=>z)
  have J:i<5:=L
  obtain⟨x,I⟩:∃x,l[i]?=some x:=⟨_,Ag 'o'⟩
  have m:(l.map D.str)[i]?=some (.str x):=by rw[Ao,I];rfl
  have g:∀(z:Int) (f d:Option D),Bits 64 z->P [↑a,↑r,↑M.length,f,d] (n.set M.length (.dct (putD b (Dq x) (.int z)))):=fun z f d H=>E _ _ ⟨_,_,_,rfl,k.set (.inr (nc _)),Nb (Xo c),o.put64 _ H,p.put _ _,by have:=Vv b (Dq x) (.int z);lia⟩
  (delta Qm;simp only[Int.zero_add])
  symm
  refine⟨a,920+i,by rw[Int.natCast_add];rfl,B.ks k (fun z=>z),'o',fun v O _=>?_⟩
  symm
  have h:CPow 10 18:=⟨'d','d','d'⟩
  have y:IntMulOk 2 (10 ^ Int.toNat 18):=by unfold IntMulOk;decide
  split
  .rename_i N
   refine⟨a,920+i,by rw[Int.natCast_add];rfl,B.ks k (fun z=>z),fun u _=>?_⟩
   symm
   refine⟨h,y,'d',h,ix_l (k:=i) C m ?_⟩
   refine .inr (.inl ⟨b,_,c,rfl,Z3 'o',?_⟩)
   symm
   delta Ve
   symm
   rw[ng (by rw[N];decide)]
   refine g _ _ _ ?_
   rw[qm 'd']
   have A:=nw u (show(2 * 10 ^ Int.toNat 18+1:Int)≠0 by decide)
   have s:=nv u (show(0:Int)<2 * 10 ^ Int.toNat 18+1 by decide)
   generalize u % (2 * 10 ^ Int.toNat 18+1)=w at A s
   rw[show(10:Int) ^ Int.toNat 18=1000000000000000000 by decide] at s ⊢
   unfold Bits
   lia
  .delta Ve
   symm
   split
   .refine⟨Zi 'd' 'd',ix_l (k:=i) C m ?_⟩
    refine .inr (.inl ⟨b,_,c,rfl,Z3 'o',?_⟩)
    symm
    refine g _ _ _ ?_
    rw[qm 'd']
    have A:=nw (qdiv (v:Int) 4) (show(41:Int)≠0 by decide)
    have s:=nv (qdiv (v:Int) 4) (show(0:Int)<41 by decide)
    generalize (qdiv (v:Int) 4) % 41=w at A s
    unfold Bits
    lia
   .exact E _ _ ⟨b,_,_,rfl,k,c,o,p,'o'⟩
 .rintro t n ⟨b,f,d,rfl,k,c,o,p,j⟩
  delta Qh
  symm
  show q _ _ _ o p j k c (nc _)
end
def Zj1(xs ys:List T):dTs (xs++ys)=max (dTs xs) (dTs ys):=by
 induction xs with
 | nil=>rw[Ir];change _=max 0 _;lia
 | cons x xs a=>rw[Hx];change max (dT x) (dTs (xs++ys))=max (max (dT x) (dTs xs)) _;rw[a];lia
def yD(f:Fr):Nat:=match f.y with
 | some y=>dTs y
 | none=>0
def FB(m:Nat):List Fr->Prop
 | []=>True
 | f::r=>dTs f.n<=2 * (m - r.length)+1/\yD f<=2 * (m - r.length)+1/\FB m r
def mk_d(f:Fr):dT f.mk'<=max (dTs f.n) (yD f)+2:=by
 let⟨h,y,n⟩:=f
 have c:∀a s b,dT (Fr.mk (some (.cond a s b)) y n).mk'<=max (dTs n) (yD (Fr.mk h y n))+2:=by
  intro a s b
  cases y with
  | none=>change max (dTs n) (dTs [])+2<=_;change max (dTs n) 0+2<=_;lia
  | some y=>change max (dTs y) (dTs n)+2<=max (dTs n) (dTs y)+2;lia
 cases h with
 | none=>change 1<=_;lia
 | some l=>
  cases l with
  | cond a s b=>show c a s b
  | rnd k=>change dTs n+2<=max (dTs n) _+2;lia
  | prt k=>change dTs n+2<=max (dTs n) _+2;lia
  | _=>change 1<=_;lia
def Yp5{m:Nat}{l:Ln}(i:nxt q l e)(d:fs.length=q.length+1)(t:q.length<=m)(h:FB m fs):FB m (nst fs l)/\(nst fs l).length=e.length+1:=by
 match fs,d,h with
 | f::r,d,⟨o,k,p⟩=>
  rw[Ar] at d
  have c:∀l:Ln,FB m (⟨f.h,f.y,f.n++[.leaf l]⟩::r):=fun l=>⟨by rw[Zj1];change max _ (max 1 0)<=_;lia,k,p⟩
  have j:∀l:Ln,FB m (⟨some l,none,[]⟩::f::r):=fun l=>⟨nl _,nl _,o,k,p⟩
  cases l with
  | cond a s b=>show⟨j _,by cases (show e=_ from i);simp[nst];lia⟩
  | rnd n=>show⟨j _,by cases (show e=_ from i);simp[nst];lia⟩
  | prt n=>show⟨j _,by cases (show e=_ from i);simp[nst];lia⟩
  | els=>
   let⟨u,n,rfl,rfl⟩:=i
   show⟨⟨nl _,o,p⟩,by simp[nst] at d ⊢;lia⟩
  | don=>
   let⟨x,rfl⟩:=i
   rw[Ae,Ak] at d t
   match r,d,p,o,k with
   | g::r,d,⟨g1,g2,g3⟩,o,k=>
    rw[Ar] at d o k
    refine⟨⟨?_,g2,g3⟩,by change r.length+1=_;lia⟩
    change dTs (g.n++[f.mk'])<=_
    rw[Zj1]
    have:=mk_d f
    change max _ (max (dT f.mk') 0)<=_
    lia
  | sum x a s b=>cases (show e=_ from i);show⟨c _,d⟩
  | lve n=>cases (show e=_ from i);show⟨c _,d⟩
  | agn n=>cases (show e=_ from i);show⟨c _,d⟩
  | fin=>cases (show e=_ from i);show⟨c _,d⟩
def Wk.FB{m:Nat}:∀{ls:LG} {f g:List (Tp×Int)} {fs:List Fr},Wk m f ls g->fs.length=f.length+1->f.length<=m->K52.FB m fs->K52.FB m (ls.foldl nst fs)
 | [],f,g,fs,h,k,j,i=>i
 | l::ls,f,g,fs,zy29,k,j,i=>by
  let⟨a,b,t,c,d,e⟩:=zy29
  let⟨o,n⟩:=Yp5 c k j i
  show e.FB n d o
def Yt9{m:Nat}(h:Wk m [] ls []):dTs (nest ls)<=2 * m+1:=by
 have:=h.FB (fs:=[fr0]) rfl (nl _) ⟨nl _,nl _,trivial⟩
 rw[Nq h.run] at this
 show this.1
def Yh4{C l:Nat->Prop}{m d r c:Nat}(f:Wk 60 [] ls [])(F:Fm C M m (nest ls) r)(k:Fm l M d (nest ls) c):AL M 122 (.ref r) (.ref c):=by
 let⟨j,i,b⟩:=F.e
 let⟨g,h,a⟩:=k.e
 show AL.up (n:=dTs (nest ls)+1) (.inr (.inr ⟨r,c,j,g,rfl,rfl,i,h,b.len.trans a.len.symm,Zq7 b a⟩)) (by have:=Yt9 f;lia)
open LN CY
def PB:Pr->Prop
 | .sum _ a _ b=>OB a/\OB b
 | .test a s b _=>OB a/\OB b/\(s="<"\/s="=")
 | _=>True
def Y16(h:o.ok):OB o:=by
 cases o with
 | nm x=>trivial
 | no i=>have h:-1000000000000000000<i/\i<1000000000000000000:=h;change Bits 64 i;unfold Bits;lia
def Yp8{l:Ln}(h:l.wf):LB l:=by
 cases l with
 | cond a s b=>show⟨h.2.1,Y16 h.1,Y16 h.2.2⟩
 | sum x a s b=>show⟨h.2.2.1,Y16 h.2.1,Y16 h.2.2.2⟩
 | _=>trivial
def Yq0{c c':CS}{l:Ln}(h:cst c l=some c')(b:LB l)(g:∀p∈c.t,PB p):∀p∈c'.t,PB p:=by
 have d:∀{x:Pr},PB x->∀p∈c.t++[x],PB p:=fun k p i=>by
  rcases Az.mp i with z | z
  .exact g p z
  .cases Am.mp z;show k
 cases l with
 | cond a s j=>
  cases h
  intro p i
  rcases Az.mp i with z | z
  .exact d (x:= .test a s j (.yes,c.t.length)) ⟨b.2.1,b.2.2,by have:=b.1;simpa only[two,An,Df,or_false] using this⟩ p z
  .cases Am.mp z;trivial
 | sum x a s j=>cases h;show d ⟨b.2.1,b.2.2⟩
 | rnd n=>cases h;show g
 | prt n=>cases h;show g
 | els=>
  let⟨t,f,o⟩:=c
  cases o with
  | nil=>cases h
  | cons e r=>
   cases e with
   | cho n=>cases h;show d trivial
   | home b n=>cases h
 | don=>
  let⟨t,f,o⟩:=c
  cases o with
  | nil=>cases h
  | cons e r=>
   cases e with
   | cho n=>cases h;show g
   | home b n=>cases b<;>cases h<;>first | show g | show d trivial
 | _=>cases h;show d trivial
def Yt6(b:∀l∈ls,LB l):∀k,∀p∈(q2 ls k).c.t,PB p
 | 0=>fun p d=>by cases d
 | k+1=>by
  have a:=Yt6 b k
  cases e:ls[k]? with
  | none=>rw[Qa (Dp.mp e)];show a
  | some l=>
   rw[Zt e]
   change ∀p∈(if skp l _ then(q2 ls k).c else(cst (q2 ls k).c l).getD (q2 ls k).c).t,PB p
   split
   .exact a
   .cases h:cst (q2 ls k).c l with
    | none=>show a
    | some f=>show Yq0 h (b l (Ax e)) a
def Yg2{c:List Raw}(f:∀l∈ls,LB l)(j:Rws ls c):∀r∈Yp c,RB r:=by
 intro r h
 let⟨i,m⟩:=List.mem_iff_getElem?.mp h
 let⟨x,g,rfl⟩:=Jm m
 let⟨p,k,e⟩:=j.get g
 have d:PB p:=by
  rcases Az.mp (Ax k) with z | z
  .exact Yt6 f ls.length p z
  .cases Am.mp z;trivial
 cases p with
 | sum x a s b=>cases e;show d
 | test a s b l=>
  let⟨t,_,rfl⟩:=Ch.mp (show(GF ls l).map (Raw.test a s b)=some x from e)
  first | show d | trivial
 | jump l=>
  let⟨t,_,rfl⟩:=Ch.mp (show(GF ls l).map Raw.jump=some x from e)
  trivial
 | fin=>cases e;trivial
def Tv{m r f most:Nat}(F:Fm C M m (nest ls) r)(g:Gd 89 ls)(i:ls.length<=400)(t:Z9 M f=some kvs)(n:MI 1064 kvs)(p:kvs.length<=500)(s:most<=1000)(q:Told (runF ls most (cm ls 0) kvs) M Q):Yx [.ref r,.ref f,.int (most:Nat)] M Q Z:=by
 let⟨b,d⟩:=Yo3 g
 let⟨v,e,k⟩:=F.e
 have j:=Y99 g.w.run
 have a:(cl ls).length<=1000:=nj (by
  have:∀ls:LG,(cl ls).length<=ls.length:=by
   intro ls
   induction ls with
   | nil=>show nc _
   | cons l ls y=>unfold cl;split<;>simp only[Ar]<;>lia
  show this ls) (nj i 'd')
 have x:=Zg6 g ls.length 0 'o'
 show⟨C,nest ls,r,v,(q2 ls ls.length).c,b,f,most,kvs,rfl,e,k,fun c u=>(F.c c u).2,by rw[j];show a,by rw[j];show x,d,d.ok i,Yg2 (fun l h=>Yp8 (g.w.all l h)) d,t,n,p,s,fun L o=>by
  have e:=Yo6 g d o most 0 kvs (nl _)
  rw[show ph ls 0=0 from rfl] at e
  rw[e];show q⟩
open LN CY
structure Sv(ls:LG)(kvs:KQ9)(R:List D×Str×KQ9)(C:Nat->Prop)(m lr nr mr fr st a b:Nat)(M:Z2):Prop where
 l:Z4 M lr=some (ls.map Ln.d)
 n:Nms M nr
 d:Z9 M mr=some kvs
 f:Fm C M m (nest ls) fr
 s:Z9 M st=some kvs
 wa:Z4 M a=some R.1
 wb:Z9 M b=some R.2.2
 o1:lr<m
 o2:nr<m
 o3:mr<m
 o4:fr<st
 o5:∀c,C c->c<st
 o6:st<a
 o7:st<b
def Sv.ks{m g c e i st a b:Nat}(h:Sv ls kvs R C m g c e i st a b M)(k:Kp M M'):Sv ls kvs R C m g c e i st a b M':=
 ⟨k.pW h.l,h.n.ks k (fun z=>z),k.D h.d,h.f.keep k,k.D h.s,k.pW h.wa,k.D h.wb,h.o1,h.o2,h.o3,h.o4,h.o5,h.o6,h.o7⟩
section
variable{K:Ab}{Γ:List DSp}{G:LD}
def X05(g1:Γ[47]?=some Z29)(g2:Γ[48]?=some Ek)(g3:Γ[43]?=some Fa)(g4:Γ[36]?=some Ww)(g5:Γ[41]?=some (Xd 122)){ls:LG}{kvs:KQ9}{C:Nat->Prop}{m g j e o st a b most:Nat}{M:Z2}{r:Option D}{Q:DK}(p:Gd 89 ls)(E:Wk 60 [] ls [])(u:ls.length<=400)(A:MI 64 kvs)(t:KI kvs)(T:kvs.length<=5)(F:most<=1000)
  (i:Sv ls kvs (runF ls most (cm ls 0) kvs) C m g j e o st a b M)
  (q:∀(x y:Nat) M',Sv ls kvs (runF ls most (cm ls 0) kvs) C m g j e o st a b M'->Z4 M' x=some (runF ls most (cm ls 0) kvs).1->Z9 M' y=some (runF ls most (cm ls 0) kvs).2.2->b<y->st<x->tss ⟨K,Γ,G⟩ noX Jp {nx:=fun _ M=>Q .non M,rt:=Q} [r,↑g,↑j,↑e,some (.int (most:Nat)),↑o,↑st,some (.tup [.ref a,.str (runF ls most (cm ls 0) kvs).2.1,.ref b]),some (.tup [.ref x,.str (runF ls most (cm ls 0) kvs).2.1,.ref y]),none] M'):
  tss ⟨K,Γ,G⟩ noX Nt {nx:=fun _ M=>Q .non M,rt:=Q} [r,↑g,↑j,↑e,some (.int (most:Nat)),↑o,↑st,some (.tup [.ref a,.str (runF ls most (cm ls 0) kvs).2.1,.ref b]),none,none] M:=by
 let⟨J,W,V,I⟩:=Os ls most (cm ls 0) kvs t
 generalize H:runF ls most (cm ls 0) kvs=R at *
 delta Nt
 symm
 refine⟨g,e,most,ls,kvs,rfl,Z1 i.l,p,u,fun l h=>Yp8 (p.w.all l h),i.d,A.mono 'd','o',F,?_⟩
 rw[H]
 intro X x y B z v S P
 have c:=i.ks B
 have U:b<M.length:=Xo i.wb
 symm
 refine⟨a,x,b,y,R.1,R.2.1,R.2.2,rfl,c.wa,z,I,c.wb,v,'o',J,?_⟩
 symm
 refine⟨st,e,kvs,rfl,c.s,c.d,by have:=c.f.n.2;have:=c.o3;have:=c.o4;lia,t,?_⟩
 symm
 delta Zr9
 symm
 refine⟨g,ls,rfl,Z1 c.l,u,p.w.run,fun Y L O k N=>?_⟩
 symm
 refine⟨_,_,rfl,Yh4 E (c.f.keep k) N,?_⟩
 symm
 show q x y L (c.ks k) (k.pW z) (k.D v) 'o' (by have:=i.o7;lia)
end
open LN CY
section
variable{K:Ab}{Γ:List DSp}{G:LD}
def Yz1(g1:Γ[21]?=some Yx)(g2:Γ[48]?=some Ek)(g4:Γ[36]?=some Ww)(g5:Γ[41]?=some (Xd 122)){m lr nr mr fr st a b most x y:Nat}(hg:Gd 89 ls)(hl:ls.length<=400)(mi:MI 64 kvs)(ki:KI kvs)(kl:kvs.length<=5)(hm:most<=1000)
  (sv:Sv ls kvs (runF ls most (cm ls 0) kvs) C m lr nr mr fr st a b M) (hx:Z4 M x=some (runF ls most (cm ls 0) kvs).1) (hy:Z9 M y=some (runF ls most (cm ls 0) kvs).2.2) (by_:b<y) (sx:st<x) (q:∀M',Q (.bl true) M'):
  tss ⟨K,Γ,G⟩ noX Jp {nx:=fun _ M=>Q .non M,rt:=Q} [v0,↑lr,↑nr,↑mr,some (.int (most:Nat)),↑fr,↑st,some (.tup [.ref a,.str (runF ls most (cm ls 0) kvs).2.1,.ref b]),some (.tup [.ref x,.str (runF ls most (cm ls 0) kvs).2.1,.ref y]),none] M:=by
 let⟨f1,f2,f3,f4⟩:=Os ls most (cm ls 0) kvs ki
 obtain⟨hmf,ds0,fe,_⟩:m<=fr/\∃ds,Z4 M fr=some ds/\True:=⟨sv.f.n.2,by let⟨ds,e,_⟩:=sv.f.e;show⟨ds,e,trivial⟩⟩
 have o1:=sv.o1;have o2:=sv.o2;have o3:=sv.o3;have o4:=sv.o4;have o6:=sv.o6;have o7:=sv.o7
 delta Jp
 symm
 refine⟨Z5 (Z1 fe),_,fe,?_⟩
 symm
 have hst:Z9 (M.set fr (.lst [])) st=some kvs:=by rw[Y9 'o'];show sv.s
 refine⟨by show(Z9 _ _).isSome=true;rw[hst];rfl,kvs,hst,?_⟩
 let⟨l,hl5,hnm,hn⟩:=sv.n
 have hn2:Z7 ((M.set fr (.lst [])).set st (.dct [])) nr=some (l.map D.str):=by
  unfold Z7
  rw[Yd 'o',Yd 'o']
  show hn
 generalize hM2:(M.set fr (.lst [])).set st (.dct [])=M2 at hn2 ⊢
 symm
 obtain⟨n0,n1,l',rfl⟩:∃n0 n1 l',l=n0::n1::l':=by
  match l,hl5 with
  | n0::n1::l',_=>show⟨n0,n1,l',rfl⟩
 refine ix_l (k:=0) hn2 rfl (ix_l (k:=1) hn2 rfl ⟨Z0 'd',Z0 'd',ix_l (k:=1) (Ze (Ze hn2)) rfl ⟨_,rfl,Y5 _ _ [],?_⟩⟩)
 have h0:=hnm n0 Bs
 have h1:=hnm n1 (Av _ Bs)
 have g':Gd 89 [.sum n0 (.no 7) "-" (.nm n1)]:=⟨⟨⟨h0,⟨'d','d'⟩,Av _ Bs,h1⟩,trivial,[],rfl,'d',rfl⟩,List.nodup_nil⟩
 rw[Xe]
 refine Tv (C:=fun _=>False) (m:=0) (ls:=[.sum n0 (.no 7) "-" (.nm n1)]) (kvs:=[(Dq n1,.int 3)]) (most:=2) ⟨⟨[D.tup [.str "sum",.str n0,.int 7,.str "-",.str n1]],?_,?_⟩,fun c hc=>hc.elim,fun z=>z,nl _⟩ g' (by change 1<=400;decide) ?_ ?_ (by change 1<=500;decide) 'd' ?_
 .exact Z8 (Za _ _ [])
 .refine⟨_,[],rfl,?_,rfl⟩
  first | show rfl | show⟨rfl,rfl⟩ | show⟨rfl,trivial⟩ | show⟨rfl,rfl,rfl⟩
 .exact Y5 _ _ []
 .exact(MI.put64 (kvs:=[]) (fun k v e=>by cases e) (Dq n1) (i:=3) (by unfold Bits;decide)).mono 'd'
 .intro M3 r3 h3 k3 e3 e4 l3 l4
  have e:runF [.sum n0 (.no 7) "-" (.nm n1)] 2 (cm [.sum n0 (.no 7) "-" (.nm n1)] 0) [(Dq n1,.int 3)]=([sumT n0 7 "-" 3 4],("end":Str),putD [(Dq n1,.int 3)] (Dq n0) (.int 4)):=by
   have w3:wI [(Dq n1,.int 3)] (.nm n1)=3:=by unfold wI valD;simp[dI]
   have mk:mkS "-" (wI [(Dq n1,.int 3)] (.no 7)) (wI [(Dq n1,.int 3)] (.nm n1))=some 4:=by rw[w3];rfl
   rw[Qf (.refl 0) rfl,Jl (x:=n0) (a:= .no 7) (s:="-") (b:= .nm n1) rfl mk,Qf (.refl _) rfl,Je (.inr (.inr ⟨_,rfl,.inl rfl⟩)),w3]
   rfl
  rw[e] at e3 e4 ⊢
  symm
  refine⟨_,_,rfl,AL.flat rfl,?_⟩
  symm
  refine Zg (Z1 e3) ?_
  symm
  have kM:Kp M2 M3:=((Ks.new M2 _).app _).trans k3
  have rl:Z4 M2 lr=some (ls.map Ln.d):=by rw[<-hM2,Yt 'o',Yt 'o'];show sv.l
  have rd:Z9 M2 mr=some kvs:=by rw[<-hM2,Y9 'o',Y9 'o'];show sv.d
  have ra:Z4 M2 a=some (runF ls most (cm ls 0) kvs).1:=by rw[<-hM2,Yt 'o',Yt 'o'];show sv.wa
  have rb:Z9 M2 b=some (runF ls most (cm ls 0) kvs).2.2:=by rw[<-hM2,Y9 'o',Y9 'o'];show sv.wb
  have rx:Z4 M2 x=some (runF ls most (cm ls 0) kvs).1:=by rw[<-hM2,Yt 'o',Yt 'o'];show hx
  have ry:Z9 M2 y=some (runF ls most (cm ls 0) kvs).2.2:=by rw[<-hM2,Y9 'o',Y9 'o'];show hy
  delta Zp5
  symm
  rw[ng (fun z=>z rfl)]
  symm
  refine⟨lr,ls,rfl,Z1 (kM.pW rl),hl,hg.w.run,fun C5 M5 r5 k5 F5=>?_⟩
  symm
  have k25:Kp M2 M5:=kM.trans k5
  refine Tv F5 hg hl (k25.D rd) (mi.mono 'd') 'o' hm fun M6 r6 h6 k6 e5 e6 l5 l6=>?_
  symm
  have k26:Kp M2 M6:=k25.trans k6
  have yl:y<M2.length:=Xo ry
  refine⟨r6,x,h6,y,_,_,_,rfl,e5,k26.pW rx,f4,e6,k26.D ry,by have:=k25.len;lia,f1,?_⟩
  symm
  refine⟨a,x,b,y,_,_,_,rfl,k26.pW ra,k26.pW rx,f4,k26.D rb,k26.D ry,'o',f1,?_⟩
  symm
  show q _
end
open LN CY
section
variable{K:Ab}{Γ:List DSp}{G:LD}
def Yz4(g1:Γ[47]?=some Z29)(g2:Γ[48]?=some Ek)(g3:Γ[43]?=some Fa)(g4:Γ[36]?=some Ww)(g5:Γ[41]?=some (Xd 122))(g6:Γ[21]?=some Yx)(g7:Γ[35]?=some Jo)(g8:Γ[27]?=some Qp)(g9:Γ[42]?=some Zn3)(g10:Γ[23]?=some Gs)(g11:Γ[51]?=some (fun as M Q Z=>Yx (as++[.int 100]) M Q Z)):Rd K Γ G Z89 Yc0 Zu5:=by
 rintro ds M Q Z ⟨h,rfl,rfl,hn,_,q⟩
 have U:Z7 [.frz (h.map .int)] 0=some (h.map .int):=rfl
 generalize [Cell.frz (h.map .int)]=M at U ⊢
 have T:Scr M 0:=⟨h,U,hn⟩
 delta Yc0 Zu5
 symm
 refine Zg U ?_
 symm
 rw[Af]
 obtain⟨g,h1,x0,em⟩:∃g:Nat,1<=g/\g<=60/\(if (if (60:Int)< (h.length:Int) then(60:Int) else(h.length:Int)) >1 then(if (60:Int)< (h.length:Int) then(60:Int) else(h.length:Int)) else 1)=g:=by
  refine⟨(if (if (60:Int)< (h.length:Int) then(60:Int) else(h.length:Int)) >1 then(if (60:Int)< (h.length:Int) then(60:Int) else(h.length:Int)) else 1).toNat,?_,?_,?_⟩
  .split<;>split at * <;>lia
  .split<;>split at * <;>lia
  .rw[Int.toNat_of_nonneg]
   split<;>split at * <;>lia
 rw[em]
 refine⟨0,g,h,rfl,U,hn,x0,fun j M1 O dr hl r0 k1 e1 m1=>?_⟩
 have G0:=dr.gd hl
 have J:Gd 89 j:=⟨G0.w.mono 'd',G0.n⟩
 symm
 refine⟨0,rfl,T.ks k1 (fun z=>z),fun l M2 L E B S e2=>?_⟩
 symm
 have A:=k1.trans S
 refine⟨0,L,rfl,T.ks A (fun z=>z),⟨l,E,B,e2⟩,fun d M3 X N ki kl s e3 l3=>?_⟩
 symm
 have t:=A.trans s
 refine⟨0,940,rfl,T.ks t (fun z=>z),'d',fun v hv _=>?_⟩
 symm
 refine⟨Zi 'd' 'd',?_⟩
 obtain⟨f,k,em⟩:∃f:Nat,f<=1000/\qmod (qdiv (v:Int) 8) 120=f:=by
  rw[qm 'd']
  have h1:=nw (qdiv (v:Int) 8) (show(120:Int)≠0 by decide)
  have h2:=nv (qdiv (v:Int) 8) (show(0:Int)<120 by decide)
  show⟨((qdiv (v:Int) 8) % 120).toNat,'o','o'⟩
 rw[em]
 symm
 refine⟨O,j,rfl,Z1 ((S.trans s).pW e1),'o',J.w.run,fun C i fr k4 F4=>?_⟩
 symm
 refine .inl ⟨d,Kp.D k4 e3,?_⟩
 symm
 have Y:Kp i (i++[.dct d]):=Ks.new _ _
 have z0:=(t.trans k4).trans Y
 have F5:=F4.keep Y
 have W:Z9 (i++[.dct d]) i.length=some d:=Y5 _ _ []
 have v0:(i++[Cell.dct d]:Z2).length=i.length+1:=by simp
 have w0:fr<i.length:=by let⟨_,z,_⟩:=F4.e;show Zd (Z1 z)
 have s0:O<M1.length:=Zd (Z1 e1)
 have u0:L<M2.length:=Zd e2
 have t0:X<M3.length:=Xo e3
 have p0:=S.len
 have q0:=s.len
 have F:∀(o:Nat),o<=1000->∀m a b,Kp (i++[.dct d]) m->Z4 m a=some (runF j o (cm j 0) d).1->Z9 m b=some (runF j o (cm j 0) d).2.2->(i++[Cell.dct d]:Z2).length<=a->(i++[Cell.dct d]:Z2).length<=b->tss ⟨K,Γ,G⟩ noX Nt {nx:=fun _ M=>Q .non M,rt:=Q} [↑0,↑O,↑L,↑X,some (.int (o:Nat)),↑fr,↑i.length,some (.tup [.ref a,.str (runF j o (cm j 0) d).2.1,.ref b]),none,none] m:=by
  intro o k m a b p I H R P
  have r:Kp M3 m:=(k4.trans Y).trans p
  have sv:Sv j d (runF j o (cm j 0) d) C M3.length O L X fr i.length a b m:=⟨((S.trans s).trans r).pW e1,⟨l,E,B,(s.trans r).pL e2⟩,r.D e3,F5.keep p,Kp.D p W,I,H,'o','o','o',w0,fun c hc=>(F4.c c hc).2,'o','o'⟩
  show X05 g1 g2 g3 g4 g5 J G0.w 'o' N ki kl k sv fun x y M' V hx hy hb y0=>Yz1 g6 g2 g4 g5 J 'o' N ki kl k V hx hy hb y0 q
 refine⟨0,941,rfl,T.ks z0 (fun z=>z),'d',fun u hu _=>?_⟩
 symm
 refine⟨Zi 'd' 'd',?_⟩
 split
 .symm
  refine Tv (most:=100) F5 J 'o' W (N.mono 'd') 'o' 'd' fun m a b p I H R P=>?_
  symm
  show F 100 'd' m a b p I H R P
 .refine Tv (most:=f) F5 J 'o' W (N.mono 'd') 'o' k fun m a b p I H R P=>?_
  symm
  show F f k m a b p I H R P
end
structure DW(K:Ab)(mg:Str->Option Ua)(n:Str)(st:Stmt)(ps:LS) where
 mk::
 a:Uc
 d:FuncData
 F:Fun K n n st a d
 g:mg n=↑a
 k:Dm K (.ref a)=true
 b:Yg K d ps []
def DW.of{K:Ab}{h:Uf}{mg:Str->Option Ua}{n:Str}{st:Stmt}{ps:LS}{f:Uc}{oc kV dc pm cd ct:Ua}{od an:Option Uc}{sl:Array (Option Ua)}(X:K.In h)(G:h.Ns mainGlobals mg)(a:Km K mainGlobals n=some (↑f))
  (l:K.lookup f=some ⟨oc,od,.func (Hj n n (Yr st) (Zr st) (Zc st) .none kV dc pm an cd ct),sl⟩) (c:Kf K cd n=true) (k:Dm K (.ref f)=true) (b:∀kV dc pm an cd ct,Yg K (Hj n n (Yr st) (Zr st) (Zc st) .none kV dc pm an cd ct) ps []:=by intro _ _ _ _ _ _;refine .all ?_;repeat first | show U.Y73 rfl | refine U.Z44 fun _=>?_):DW K mg n st ps:=
 ⟨f,_,Y58 (st:=st) l c k,Ku X G a,k,b _ _ _ _ _ _⟩
def DW.en{K:Ab}{mg:Str->Option Ua}{n:Str}{st:Stmt}{ps:LS}(T:DW K mg n st ps):Ent K mg n:=⟨_,_,_,T.g,T.k,T.b⟩
structure DE(K:Ab)(mg:Str->Option Ua)(n:Str)(st:Stmt)(ps:LS)(v:Int) where
 mk::
 t:DW K mg n st ps
 e:∃tk,Yg K t.d ps [.int v tk]
def DE.of{K:Ab}{h:Uf}{mg:Str->Option Ua}{n:Str}{st:Stmt}{ps:LS}{v:Int}{f td:Uc}{nd:Nat}{tk:Tok}{oc kV dc pm cd ct ot:Ua}{od an o2:Option Uc}{sl s2:Array (Option Ua)}(X:K.In h)(G:h.Ns mainGlobals mg)(a:Km K mainGlobals n=some (↑f))
  (l:K.lookup f=some ⟨oc,od,.func (Hj n n (Yr st) (Zr st) (Zc st) (.ref td) kV dc pm an cd ct),sl⟩) (c:Kf K cd n=true) (k:Dm K (.ref f)=true) (dl:K.lookup td=some ⟨ot,o2,.seq #[.int v tk] nd,s2⟩) (b:∀kV dc pm an cd ct,Yg K (Hj n n (Yr st) (Zr st) (Zc st) (.ref td) kV dc pm an cd ct) ps []/\Yg K (Hj n n (Yr st) (Zr st) (Zc st) (.ref td) kV dc pm an cd ct) ps [.int v tk]):DE K mg n st ps v:=
 ⟨⟨f,_,Y58 (st:=st) l c k,Ku X G a,k,(b _ _ _ _ _ _).1⟩,tk,(b _ _ _ _ _ _).2⟩
structure EX(K:Ab)(mg:Str->Option Ua) where
 mk::
 J:Uc
 B:Uc
 I:Uc
 d:FuncData
 gJ:mg "JumpError"=↑J
 gB:mg "ByNought"=↑B
 mB:ExcMk K B I
 sB:ExcSet K B "row"
 co:Catch K B B true
 ok:∀(P:Ud) (w:Ue) (mg:Str->Option Ua) (base:Uf),FnOk P w K mg base CX0 1 I d ["self","row"] (N1 K)
 b1:Yg K d ["self","row"] [.none]
 b0:Yg K d ["self","row"] []
def EX.of{K:Ab}{h:Uf}{mg:Str->Option Ua}{J B N fi Ti:Uc}{kV dc pm cd ct oc o2:Ua}{an od dd o3:Option Uc}{sl s2:Array (Option Ua)}{nm q:Str}{bs sub:LW}{sn:LS}{ab:Bool}{col:Option Bool}{ka kb kc kd ke:Option Ua}{nT:Nat}(X:K.In h)(G:h.Ns mainGlobals mg)(n0:Km K mainGlobals "JumpError"=some (↑J))(n1:Km K mainGlobals "ByNought"=some (↑B))
  (xl:K.lookup B=some (excClassObj nm q B N bs (.ref J::vs4) true sn sub ab col dd ka kb kc kd ke "ValueError.__new__")) (xa:Ho K (.ref B) "__init__"=some (↑fi)) (xb:PySem.W.isFn K (.ref fi)=true) (xc:Dm K (.ref B)=true) (xd:Ho K (.ref B) "row"=some none) (xe:Ho K (.ref B) "__setattr__"=some (some (.builtin "object.__setattr__"))) (xh:PySem.W.mroIn K B (.type "BaseException")=some true) (xm:PySem.W.typeIn K (.ref B)=some (.type "type")) (xn:PySem.W.isClsIn K B=true) (xo:PySem.W.mroIn K B (.ref B)=some true)
  (il:K.lookup fi=some ⟨oc,od,.func (Hj "__init__" "JumpError.__init__" (Yr Fg) (Zr Fg) (Zc Fg) (.ref Ti) kV dc pm an cd ct),sl⟩) (ic:Kf K cd "JumpError.__init__"=true) (it:K.lookup Ti=some ⟨o2,o3,.seq #[.none] nT,s2⟩):EX K mg:=
 ⟨J,B,fi,_,Ku X G n0,Ku X G n1,Zt3 xl xa xb xc,Zq6 xl xd xe,⟨xm,xn,xh,xo⟩,fun P w mg base=>Y93 il ic Ye5 Yk2 rfl rfl,Ct (n:=1) (fun s KX=>Y38 fun _=>PySem.W.binds_K KX rfl it rfl rfl rfl) rfl,Jq (n:=2) (fun s KX=>Z02 fun _ _=>PySem.W.binds_K KX rfl it rfl rfl rfl) rfl⟩
def EX.pr{K:Ab}{mg:Str->Option Ua}(X:EX K mg){P:Ud}{w:Ue}{base:Uf}{c:Cfg}{n lv:Nat}(hn:c.G[n]?=some (.cls X.B))(h:2<=lv):PrgR P w K mg base c [n] lv:= .one hn X.mB (X.ok _ _ _ _) h X.b1 X.b0 X.sB
def ad{P:Ud}{w:Ue}{K:Ab}{mg:Str->Option Ua}{base:Uf}{Γ:List DSp}{G:LD}{FN GN BN:LS}{lv:Nat}{x:Str}{st:Stmt}{ps N:LS}{b:Ss}{sp:DSp}(Pr:Prg P w K mg base ⟨K,Γ,G⟩ FN GN BN lv)(n:Nat)(T:DW K mg x st ps)(r:Rd K Γ G sp b N)(S:FnScope N ps (Zc st):=by show⟨rfl,rfl,rfl,'k',rfl,'k','k'⟩)(hc:V3 (ck0 N st FN GN BN) b (Zr st)=true:=by decide+kernel)
  (hl:∀ds M Q Z,sp ds M Q Z->ds.length=ps.length:=by intro _ _ _ _ h;repeat (first | (let⟨rfl,_⟩:=h;rfl;done) | (let⟨_,h⟩:=h))) (hx:FN[n]?=some x:=by rfl):Prg P w K mg base ⟨K,Γ.set n sp,G⟩ FN GN BN (lv+1):=Pr.add n hx (fn0 Pr T.F S hc hl r) (nc _) (mh _) T.g T.k T.b
def adE{P:Ud}{w:Ue}{K:Ab}{mg:Str->Option Ua}{base:Uf}{Γ:List DSp}{G:LD}{FN GN BN:LS}{lv:Nat}{x:Str}{st:Stmt}{ps N:LS}{b:Ss}{sp:DSp}(Pr:Prg P w K mg base ⟨K,Γ,G⟩ FN GN BN lv)(n:Nat){v:Int}(T:DE K mg x st ps v)(r:Rd K Γ G sp b N)(m:Nat)(S:FnScope N ps (Zc st):=by show⟨rfl,rfl,rfl,'k',rfl,'k','k'⟩)(hc:V3 (ck0 N st FN GN BN) b (Zr st)=true:=by decide+kernel)
  (hl:∀ds M Q Z,sp ds M Q Z->ds.length=ps.length:=by intro _ _ _ _ h;repeat (first | (let⟨rfl,_⟩:=h;rfl;done) | (let⟨_,h⟩:=h))) (hx:FN[n]?=some x:=by rfl) (hm:FN[m]?=some x:=by rfl):Prg P w K mg base ⟨K,(Γ.set n sp).set m (fun as M Q Z=>sp (as++[.int v]) M Q Z),G⟩ FN GN BN (lv+1):=by
 have F:=fn0 Pr T.t.F S hc hl r
 let⟨tk,e⟩:=T.e
 show(Pr.add n hx F (nc _) (mh _) T.t.g T.t.k T.t.b).addD m hm F (nc _) (nc _) T.t.g T.t.k e (dD:=[.int v]) (dvs:=[.int v]) (.cons ⟨_,rfl⟩ .nil) (fun w _=>RDs.cons (Zf.mpr rfl) (RDs.nil w))
def ad1{P:Ud}{w:Ue}{K:Ab}{mg:Str->Option Ua}{base:Uf}{Γ:List DSp}{G:LD}{FN GN BN:LS}{lv:Nat}{x:Str}{st:Stmt}{ps N:LS}{b:Ss}{sp:DSp}(Pr:Prg P w K mg base ⟨K,Γ,G⟩ FN GN BN lv)(n:Nat)(T:DW K mg x st ps){rs:LQ}(R:PrgR P w K mg base ⟨K,Γ,G⟩ rs lv)(r:∀ds M Q Z,sp ds M Q Z->tss ⟨K,Γ,G⟩ Z b {nx:=fun _ M=>Q .non M,rt:=Q} (start0 N ds) M)(S:FnScope N ps (Zc st):=by show⟨rfl,rfl,rfl,'k',rfl,'k','k'⟩)(hc:V3 (ck1 rs N st FN GN BN) b (Zr st)=true:=by decide+kernel)
  (hl:∀ds M Q Z,sp ds M Q Z->ds.length=ps.length:=by intro _ _ _ _ h;repeat (first | (let⟨rfl,_⟩:=h;rfl;done) | (let⟨_,h⟩:=h))) (hx:FN[n]?=some x:=by rfl):Prg P w K mg base ⟨K,Γ.set n sp,G⟩ FN GN BN (lv+1):=Pr.add n hx (fn1 Pr R T.F S hc hl r) (nc _) (mh _) T.g T.k T.b
section
variable{K:Ab}{mg:Str->Option Ua}(T0:DW K mg "line_of" Zi0 ["statement"])(T1:DW K mg "told_within" Ga ["statement"])(T2:DW K mg "lines_of" Za6 ["form"])(T3:DW K mg "with_goal" Cd ["row","places"])(T4:DW K mg "begin_rows" Gw ["line","told","places"])(T5:DW K mg "begin_no" Za3 ["choice","told","places"])(T6:DW K mg "finish_rows" Nw ["done","told","places"])(T7:DW K mg "rows_of" Zs3 ["form"])(T8:DW K mg "quotient" Z86 ["one","other"])(T9:DW K mg "rest" Yo5 ["one","other"])(T10:DW K mg "made" Yn3 ["sign","one","other"])(T11:DW K mg "holds" Yj8 ["sign","one","other"])(T12:DW K mg "worth" Yh8 ["operand","memory"])(T13:DW K mg "deed_of_sum" J2 ["name","one","sign","other","memory"])(T14:DW K mg "deed_of_test" Pj ["one","sign","other","memory"])(T15:DW K mg "behind" Y30 ["node","deed","memory"])(T16:DW K mg "deed_of" Zf1 ["node","memory"])(T17:DW K mg "run_from" Z82 ["nodes","start","memory","most"])(T18:DW K mg "landings" Za1 ["rows","places"])(T19:DW K mg "linked" Zz3 ["rows"])(T20:DE K mg "run" Yw4 ["rows","memory","most"] 100)(T21:DE K mg "run_form" Zb1 ["form","memory","most"] 100)(T22:DW K mg "_law_raw" Yp6 ["_law_script","_law_k"])(T23:DW K mg "_law_mix" Yo9 ["_law_script","_law_k"])(T24:DW K mg "_law_kept" Yc6 [])(T25:DW K mg "_law_sign" Yi8 ["_law_number","_law_first_here"])(T26:DW K mg "_law_word" Y92 ["_law_number","_law_size"])(T27:DW K mg "_law_names" Y32 ["_law_script"])(T28:DW K mg "_law_operand" Za5 ["_law_script","_law_k","_law_names_here","_law_number"])(T29:DW K mg "_law_begins" Zp4 ["_law_line"])(T30:DW K mg "_law_deed" Y86 ["_law_script","_law_k","_law_names_here","_law_number"])(T31:DW K mg "_law_goes" Yg7 ["_law_stack","_law_number"])(T32:DW K mg "_law_first" Y20 ["_law_script"])(T33:DW K mg "_law_close" Y26 ["_law_stack","_law_number"])(T34:DW K mg "_law_step" Yb2 ["_law_script","_law_k","_law_names_here","_law_stack"])(T35:DW K mg "_law_lines" Y10 ["_law_script","_law_many"])(T36:DW K mg "_law_nested" Zg0 ["_law_lines_here"])(T37:DW K mg "_law_marks" Y24 ["_law_lines_here"])(T38:DW K mg "_law_next" Y81 ["_law_lines_here","_law_marks_here","_law_at"])(T39:DW K mg "_law_comes" Zv1 ["_law_lines_here","_law_marks_here","_law_at"])(T40:DW K mg "_law_no" Yy7 ["_law_lines_here","_law_marks_here","_law_at"])(T41:DW K mg "_law_alike" Zy4 ["_law_found","_law_due"])(T42:DW K mg "_law_memory" Zf0 ["_law_script","_law_names_here"])(T43:DW K mg "_law_same_memory" Po ["_law_found","_law_due"])(T44:DW K mg "_law_worth" Y07 ["_law_operand_here","_law_memory_here"])(T45:DW K mg "_law_made" Ya5 ["_law_sign_here","_law_one","_law_other"])(T46:DW K mg "_law_done" Yf1 ["_law_line","_law_memory_here"])(T47:DW K mg "_law_run" Ym7 ["_law_lines_here","_law_memory_here","_law_most"])(T48:DW K mg "_law_fits" Yd6 ["_law_found","_law_due"])(X:EX K mg)
include T0 T1 T2 T3 T4 T5 T6 T7 T8 T9 T10 T11 T12 T13 T14 T15 T16 T17 T18 T19 T20 T21 T22 T23 T24 T25 T26 T27 T28 T29 T30 T31 T32 T33 T34 T35 T36 T37 T38 T39 T40 T41 T42 T43 T44 T45 T46 T47 T48 X
theorem Ym6{P:Ud}{w:Ue}{base:Uf}(T49:DW K mg "law" Cr ["_law_script"])(Q_ELSE:∃a,mg "ELSE"=↑a/\∃(o:Obj) (its:Array Ua) (n:Nat),K.lookup a=some o/\o.cls= .type "tuple"/\o.data= .seq its n/\its.size<=sizeLine/\Vals [.str "else"] its.toList)(Q_DONE:∃a,mg "DONE"=↑a/\∃(o:Obj) (its:Array Ua) (n:Nat),K.lookup a=some o/\o.cls= .type "tuple"/\o.data= .seq its n/\its.size<=sizeLine/\Vals [.str "done"] its.toList)(Q_OPENERS:∃a,mg "OPENERS"=↑a/\∃(o:Obj) (its:Array Ua) (n:Nat),K.lookup a=some o/\o.cls= .type "tuple"/\o.data= .seq its n/\its.size<=sizeLine/\Vals [.str "choice",.str "round",.str "part"] its.toList)(hz:∀x∈BN,mg x=none):FnOk P w K mg base (CX1 P w) 174 T49.a T49.d ["_law_script"] (spF K Z89):=by
 have PZ:Prg P w K mg base ⟨K,[bot,bot,bot,bot,bot,bot,bot,bot,bot,bot,bot,bot,bot,bot,bot,bot,bot,bot,bot,bot,bot,bot,bot,bot,bot,bot,bot,bot,bot,bot,bot,bot,bot,bot,bot,bot,bot,bot,bot,bot,bot,bot,bot,bot,bot,bot,bot,bot,bot,bot,bot,bot],[.cls X.J,.cls X.B,.gtup [.str "else"],.gtup [.str "done"],.gtup [.str "choice",.str "round",.str "part"]]⟩ FN GN BN 0:=Prg.zero (all_cons T0.en (all_cons T1.en (all_cons T2.en (all_cons T3.en (all_cons T4.en (all_cons T5.en (all_cons T6.en (all_cons T7.en (all_cons T8.en (all_cons T9.en (all_cons T10.en (all_cons T11.en (all_cons T12.en (all_cons T13.en (all_cons T14.en (all_cons T15.en (all_cons T16.en (all_cons T17.en (all_cons T18.en (all_cons T19.en (all_cons T20.t.en (all_cons T21.t.en (all_cons T22.en (all_cons T23.en (all_cons T24.en (all_cons T25.en (all_cons T26.en (all_cons T27.en (all_cons T28.en (all_cons T29.en (all_cons T30.en (all_cons T31.en (all_cons T32.en (all_cons T33.en (all_cons T34.en (all_cons T35.en (all_cons T36.en (all_cons T37.en (all_cons T38.en (all_cons T39.en (all_cons T40.en (all_cons T41.en (all_cons T42.en (all_cons T43.en (all_cons T44.en (all_cons T45.en (all_cons T46.en (all_cons T47.en (all_cons T48.en (all_cons T49.en (all_cons T20.t.en (all_cons T21.t.en (Zg9))))))))))))))))))))))))))))))))))))))))))))))))))))) rfl (by intro sp h;simp only[An,Df,or_false,or_self] at h;show h) (fun g x d h1 h2=>match g,h1,h2 with | 0,h1,h2=>by cases h1;cases h2;show⟨.ref _,.ref _,X.gJ,rfl,fun w _=>N8.mpr rfl⟩ | 1,h1,h2=>by cases h1;cases h2;show⟨.ref _,.ref _,X.gB,rfl,fun w _=>N8.mpr rfl⟩ | 2,h1,h2=>by cases h1;cases h2;let⟨a,e,r⟩:=Q_ELSE;show⟨.ref a,_,e,rfl,fun w hw=>Vn.mpr ⟨a,_,rfl,.inr (by rw[hw];show r),(RDs.cons (Zq.mpr rfl) (RDs.nil w))⟩⟩ | 3,h1,h2=>by cases h1;cases h2;let⟨a,e,r⟩:=Q_DONE;show⟨.ref a,_,e,rfl,fun w hw=>Vn.mpr ⟨a,_,rfl,.inr (by rw[hw];show r),(RDs.cons (Zq.mpr rfl) (RDs.nil w))⟩⟩ | 4,h1,h2=>by cases h1;cases h2;let⟨a,e,r⟩:=Q_OPENERS;show⟨.ref a,_,e,rfl,fun w hw=>Vn.mpr ⟨a,_,rfl,.inr (by rw[hw];show r),(RDs.cons (Zq.mpr rfl) (RDs.cons (Zq.mpr rfl) (RDs.cons (Zq.mpr rfl) (RDs.nil w))))⟩⟩ | n+5,h1,h2=>by cases h2) hz
 have P0:=PZ.up (show 0<=2 by decide)
 have P1:=ad P0 0 T0 (sp:=Rm) Zs8
 have P2:=ad P1 1 T1 (sp:=Z75) (Nu rfl rfl)
 have P3:=ad P2 2 T2 (sp:=Vx) (Z96 rfl rfl)
 have P4:=ad P3 3 T3 (sp:=Z50) Cf
 have P5:=ad P4 4 T4 (sp:=Se) Fp
 have P6:=ad P5 5 T5 (sp:=Wi) Z79
 have P7:=ad P6 6 T6 (sp:=Tl) Jv
 have P8:Prg P w K mg base ⟨K,[_,_,_,_,_,_,_,_,_,_,_,_,_,_,_,_,_,_,_,_,_,_,_,_,_,_,_,_,_,_,_,_,_,_,_,_,_,_,_,_,_,_,_,_,_,_,_,_,_,_,_,_],_⟩ FN GN BN _:=ad P7 7 T7 (sp:=Rl) (Zd8 rfl rfl rfl rfl rfl rfl rfl rfl)
 have P9:=ad1 P8 8 T8 (X.pr (n:=1) rfl 'd') (sp:=Fv X.B qdiv) Zc7
 have P10:=ad1 P9 9 T9 (X.pr (n:=1) rfl 'd') (sp:=Fv X.B qmod) Yu9
 have P11:=ad1 P10 10 T10 PrgR.none (sp:=Z26 X.B) (Yr6 rfl rfl)
 have P12:=ad P11 11 T11 (sp:=Ny) Yi3
 have P13:=ad P12 12 T12 (sp:=W3) Yh3
 have P14:=ad1 P13 13 T13 PrgR.none (sp:=Vs X.B) (Nz rfl rfl)
 have P15:=ad P14 14 T14 (sp:=Wp) (Pk rfl rfl)
 have P16:Prg P w K mg base ⟨K,[_,_,_,_,_,_,_,_,_,_,_,_,_,_,_,_,_,_,_,_,_,_,_,_,_,_,_,_,_,_,_,_,_,_,_,_,_,_,_,_,_,_,_,_,_,_,_,_,_,_,_,_],_⟩ FN GN BN _:=ad P15 15 T15 (sp:=Rt) Y15
 have P17:=ad1 P16 16 T16 PrgR.none (sp:=Rn X.B) (Zs5 rfl rfl)
 have P18:=ad P17 17 T17 (sp:=Tq) (Zb3 X.co rfl rfl)
 have P19:=ad P18 18 T18 (sp:=Wy) Z80
 have P20:=ad P19 19 T19 (sp:=Rx) (Zv0 rfl)
 have P21:Prg P w K mg base ⟨K,[_,_,_,_,_,_,_,_,_,_,_,_,_,_,_,_,_,_,_,_,_,_,_,_,_,_,_,_,_,_,_,_,_,_,_,_,_,_,_,_,_,_,_,_,_,_,_,_,_,_,_,_],_⟩ FN GN BN _:=adE P20 20 T20 (sp:=Zf4) (Yx9 rfl rfl) 50
 have P22:Prg P w K mg base ⟨K,[_,_,_,_,_,_,_,_,_,_,_,_,_,_,_,_,_,_,_,_,_,_,_,_,_,_,_,_,_,_,_,_,_,_,_,_,_,_,_,_,_,_,_,_,_,_,_,_,_,_,_,_],_⟩ FN GN BN _:=adE P21 21 T21 (sp:=Yx) (Zd2 rfl rfl) 51
 have P23:=ad P22 22 T22 (sp:=Z88) Ym3
 have P24:Prg P w K mg base ⟨K,[_,_,_,_,_,_,_,_,_,_,_,_,_,_,_,_,_,_,_,_,_,_,_,_,_,_,_,_,_,_,_,_,_,_,_,_,_,_,_,_,_,_,_,_,_,_,_,_,_,_,_,_],_⟩ FN GN BN _:=ad P23 23 T23 (sp:=Gs) (Yo2 rfl)
 have P25:=ad P24 24 T24 (sp:=Of) Yb9
 have P26:=ad P25 25 T25 (sp:=Oq) Yc7
 have P27:=ad P26 26 T26 (sp:=Z67) (Y97 rfl)
 have P28:=ad P27 27 T27 (sp:=Qp) (Y35 rfl rfl rfl rfl)
 have P29:=ad P28 28 T28 (sp:=Tw) (Z83 rfl)
 have P30:=ad P29 29 T29 (sp:=Ye) Zk9
 have P31:=ad P30 30 T30 (sp:=Vt) (Yj9 rfl)
 have P32:Prg P w K mg base ⟨K,[_,_,_,_,_,_,_,_,_,_,_,_,_,_,_,_,_,_,_,_,_,_,_,_,_,_,_,_,_,_,_,_,_,_,_,_,_,_,_,_,_,_,_,_,_,_,_,_,_,_,_,_],_⟩ FN GN BN _:=ad P31 31 T31 (sp:=Ra) Yh5
 have P33:=ad P32 32 T32 (sp:=Sl) (Zz4 rfl)
 have P34:=ad P33 33 T33 (sp:=Vm) Zw3
 have P35:=ad P34 34 T34 (sp:=Z28) (Y96 rfl rfl rfl rfl rfl rfl)
 have P36:=ad P35 35 T35 (sp:=Jo) (Y29 rfl rfl)
 have P37:=ad P36 36 T36 (sp:=Ww) (Zo7 rfl)
 have P38:=ad P37 37 T37 (sp:=Jt) (Y31 rfl)
 have P39:=ad P38 38 T38 (sp:=Z69) Yd1
 have P40:Prg P w K mg base ⟨K,[_,_,_,_,_,_,_,_,_,_,_,_,_,_,_,_,_,_,_,_,_,_,_,_,_,_,_,_,_,_,_,_,_,_,_,_,_,_,_,_,_,_,_,_,_,_,_,_,_,_,_,_],_⟩ FN GN BN _:=ad P39 39 T39 (sp:=Ji) (Zy0 rfl)
 have P41:=ad P40 40 T40 (sp:=spNo) Yy2
 have A41:∀n:Nat,Prg P w K mg base ⟨K,[Rm,Z75,Vx,Z50,Se,Wi,Tl,Rl,Fv X.B qdiv,Fv X.B qmod,Z26 X.B,Ny,W3,Vs X.B,Wp,Rt,Rn X.B,Tq,Wy,Rx,Zf4,Yx,Z88,Gs,Of,Oq,Z67,Qp,Tw,Ye,Vt,Ra,Sl,Vm,Z28,Jo,Ww,Jt,Z69,Ji,spNo,Xd n,bot,bot,bot,bot,bot,bot,bot,bot,fun as M Q Z=>Zf4 (as++[.int 100]) M Q Z,fun as M Q Z=>Yx (as++[.int 100]) M Q Z],[.cls X.J,.cls X.B,.gtup [.str "else"],.gtup [.str "done"],.gtup [.str "choice",.str "round",.str "part"]]⟩ FN GN BN (43+n+1):=by
  intro n
  induction n with
  | zero=>show ad P41 41 T41 Zi6
  | succ n ih=>show ad ih 41 T41 (Zs6 rfl)
 have P42:=A41 122
 have P43:=ad P42 42 T42 (sp:=Zn3) (Zd9 rfl rfl)
 have P44:=ad P43 43 T43 (sp:=Fa) (Yb6 rfl)
 have P45:=ad P44 44 T44 (sp:=W3) Zu7
 have P46:=ad P45 45 T45 (sp:=Cj) Yh7
 have P47:=ad P46 46 T46 (sp:=Cz) (Yj0 rfl rfl)
 have P48:Prg P w K mg base ⟨K,[_,_,_,_,_,_,_,_,_,_,_,_,_,_,_,_,_,_,_,_,_,_,_,_,_,_,_,_,_,_,_,_,_,_,_,_,_,_,_,_,_,_,_,_,_,_,_,_,_,_,_,_],_⟩ FN GN BN _:=ad P47 47 T47 (sp:=Z29) (Yq1 rfl rfl rfl rfl)
 have P49:=ad P48 48 T48 (sp:=Ek) (Yh6 'd' rfl rfl)
 show fn0 P49 T49.F Ys3 Yx5 (sp:=Z89) (by rintro _ _ _ _ ⟨_,rfl,_⟩;rfl) (Yz4 rfl rfl rfl rfl rfl rfl rfl rfl rfl rfl rfl)
theorem Yk0{l:PySem.W.OpenLaw}{w:Ue}{fa f:Uc}{h:Uf}{oc kV dc pm cd ct:Ua}{od an:Option Uc}{sl:Array (Option Ua)}(hfa:mg "law"=↑fa)(X0:K.In h)(G:h.Ns mainGlobals mg)
  (a:Km K mainGlobals "law"=some (↑f)) (l0:K.lookup f=some ⟨oc,od,.func (Hj "law" "law" (Yr Cr) (Zr Cr) (Zc Cr) .none kV dc pm an cd ct),sl⟩) (c:Kf K cd "law"=true) (k:Dm K (.ref f)=true) {ta0:Uc} {tn0:Nat} {tt0_0:Tok} {to0:Option Uc} {tl0:Array (Option Ua)} (u0:Km K mainGlobals "ELSE"=some (↑ta0)) (v0:K.lookup ta0=some ⟨.type "tuple",to0,.seq #[.str "else" tt0_0] tn0,tl0⟩) {ta1:Uc} {tn1:Nat} {tt1_0:Tok} {to1:Option Uc} {tl1:Array (Option Ua)} (u1:Km K mainGlobals "DONE"=some (↑ta1)) (v1:K.lookup ta1=some ⟨.type "tuple",to1,.seq #[.str "done" tt1_0] tn1,tl1⟩) {ta2:Uc} {tn2:Nat} {tt2_0 tt2_1 tt2_2:Tok} {to2:Option Uc} {tl2:Array (Option Ua)} (u2:Km K mainGlobals "OPENERS"=some (↑ta2)) (v2:K.lookup ta2=some ⟨.type "tuple",to2,.seq #[.str "choice" tt2_0,.str "round" tt2_1,.str "part" tt2_2] tn2,tl2⟩) (hz:∀x∈BN,Km K mainGlobals x=some none)
  :∃fd:FuncData,(∀(s:Ub) (v:Ua),BindsTo s fd ⟨[v],[]⟩ [("_law_script",v)])/\∀base:Uf,K.In base->base.Ns mainGlobals mg->FnOk l.prog w K mg base (CX1 l.prog w) 174 fa fd ["_law_script"] (spF K Z89):=by
 have e2:=hfa.symm.trans (Ku X0 G a)
 cases e2
 show⟨_,fun s v=> .of_eq rfl,fun base _ _=>Ym6 T0 T1 T2 T3 T4 T5 T6 T7 T8 T9 T10 T11 T12 T13 T14 T15 T16 T17 T18 T19 T20 T21 T22 T23 T24 T25 T26 T27 T28 T29 T30 T31 T32 T33 T34 T35 T36 T37 T38 T39 T40 T41 T42 T43 T44 T45 T46 T47 T48 X (DW.of X0 G a l0 c k) ⟨_,Ku X0 G u0,_,_,_,v0,rfl,rfl,show 1<=sizeLine by decide,.cons ⟨_,rfl⟩ (.nil)⟩ ⟨_,Ku X0 G u1,_,_,_,v1,rfl,rfl,show 1<=sizeLine by decide,.cons ⟨_,rfl⟩ (.nil)⟩ ⟨_,Ku X0 G u2,_,_,_,v2,rfl,rfl,show 3<=sizeLine by decide,.cons ⟨_,rfl⟩ (.cons ⟨_,rfl⟩ (.cons ⟨_,rfl⟩ (.nil)))⟩ fun x hx=>PySem.W.mg_none_of X0 G (hz x hx)⟩
end
end K52
open PySem PySem.W PyProof.Rows
set_option maxRecDepth 100000 in
theorem PySem.Challenge.cw_unjump_k52_form_runs_holds : PySem.Challenge.rw_unjump_k52_form_runs.Holds := by
 w_on;refine holds_law Hand.wS fun said=>?_;refine holds_open (q:=Hand.qH) (loose:=Hand.lH) (Xt:=fun s=>xlAt Hand.qH [] s&&recOk [] s) (XP:=XL Hand.qH []) (Yf:=Hook.obs (kHook Hand.KH Hand.aH Hand.eH)) (Ya:=Hook.val (kHook Hand.KH Hand.aH Hand.eH)) (YP:=Hook.says (kHook Hand.KH Hand.aH Hand.eH)) (N:=4398) Hand.hlH (Hook.of _) (Hook.keeps _) (fun s e=>xl_of s (Bool.and_eq_true_iff.mp e).1) XL.keeps (by rfl) (by rfl) (by rfl) (fun s e=>recFacts_of (Bool.and_eq_true_iff.mp e).2) (by rfl) (by first | assumption | decide+kernel) 'k' ⟨rfl,rfl,rfl,rfl,rfl,'k'⟩ ?hw ?hc;(case hw=>w_witness2)
 k_fill
 refine U.Zx1 (l:=PySem.Challenge.rw_unjump_k52_form_runs) (k:=174) (x:="_law_script") rfl rfl ⟨rfl,'d','d'⟩ (fun w h Y=>PySem.W.kIn_of Y) ?F
 case F=>
  intro w mg fa h KX G hmg
  refine' K52.Yk0 (.of KX G _ _ _ _) (.of KX G _ _ _ _) (.of KX G _ _ _ _) (.of KX G _ _ _ _) (.of KX G _ _ _ _) (.of KX G _ _ _ _) (.of KX G _ _ _ _) (.of KX G _ _ _ _) (.of KX G _ _ _ _) (.of KX G _ _ _ _) (.of KX G _ _ _ _) (.of KX G _ _ _ _) (.of KX G _ _ _ _) (.of KX G _ _ _ _) (.of KX G _ _ _ _) (.of KX G _ _ _ _) (.of KX G _ _ _ _) (.of KX G _ _ _ _) (.of KX G _ _ _ _) (.of KX G _ _ _ _) (.of KX G ?a20 ?l20 ?c20 ?k20 ?d20 fun _ _ _ _ _ _=>⟨U.Jq (n:=3) (fun s Y=>U.Y57 fun _ _ _=>binds_K Y rfl ?d20 rfl rfl rfl) rfl,U.Ct (n:=2) (fun s Y=>U.Z02 fun _ _=>binds_K Y rfl ?d20 rfl rfl rfl) rfl⟩) (.of KX G ?a21 ?l21 ?c21 ?k21 ?d21 fun _ _ _ _ _ _=>⟨U.Jq (n:=3) (fun s Y=>U.Y57 fun _ _ _=>binds_K Y rfl ?d21 rfl rfl rfl) rfl,U.Ct (n:=2) (fun s Y=>U.Z02 fun _ _=>binds_K Y rfl ?d21 rfl rfl rfl) rfl⟩) (.of KX G _ _ _ _) (.of KX G _ _ _ _) (.of KX G _ _ _ _) (.of KX G _ _ _ _) (.of KX G _ _ _ _) (.of KX G _ _ _ _) (.of KX G _ _ _ _) (.of KX G _ _ _ _) (.of KX G _ _ _ _) (.of KX G _ _ _ _) (.of KX G _ _ _ _) (.of KX G _ _ _ _) (.of KX G _ _ _ _) (.of KX G _ _ _ _) (.of KX G _ _ _ _) (.of KX G _ _ _ _) (.of KX G _ _ _ _) (.of KX G _ _ _ _) (.of KX G _ _ _ _) (.of KX G _ _ _ _) (.of KX G _ _ _ _) (.of KX G _ _ _ _) (.of KX G _ _ _ _) (.of KX G _ _ _ _) (.of KX G _ _ _ _) (.of KX G _ _ _ _) (.of KX G _ _ _ _) (.of KX G _ _ _ _ _ _ _ _ _ _ _ _ _ _ _) hmg KX G _ _ _ _ _ _ _ _ _ _ (U.all_cons _ (U.all_cons _ (U.all_cons _ (U.all_cons _ (U.all_cons _ (U.all_cons _ (U.all_cons _ (U.all_cons _ (U.all_cons _ (U.all_cons _ (U.all_cons _ (U.all_cons _ (U.all_cons _ (U.all_cons _ (U.Zg9)))))))))))))))
  all_goals (try k_is)
