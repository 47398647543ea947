import PyProof.Rows.All
import Wide.All
import OpenK.AllK
import Wide.FinOn
import Lean
import PyProof.EqAt
import PyProof.EqKinds
import PyProof.TupleCall
import PyProof.CompFree
import PyProof.StationsW
import PyProof.ExcClass3
import PyProof.Commute
import OpenK.KGet
import OpenK.KMeth
import PyProof.ExcArgs
import PyProof.ZipIter
import PyProof.ListNew
import PyProof.EnumMake
import PyProof.EnumStmt
import KE.KRevSl
import PyProof.WalkInts
import PyProof.Rows.MinMaxN
import PyProof.AttrMissHeap
import PyProof.DictList
import PyProof.DictUpdate
import KE.KDictOf
import PyProof.DictWalks
import KE.KDictList
import KE.KDictSum
import KE.KLam
import KE.KMinKey
import KE.KNestM
import KE.KRevIter
import PyProof.AutoListH
import PyProof.ConsumeWalk
import PyProof.Conv_int_bool
import PyProof.DictRoadsH
import PyProof.DictUpdate
import PyProof.EnumIter
import PyProof.FactsAll.dict_4
import PyProof.ForAny
import PyProof.ListRange
import PyProof.Rows.SetFrom
import PyProof.Rows.SortWalk
import PyProof.SetRoads
import PyProof.TupleIter
import PyProof.ZipIter
import PySem.SetOps
import PySem.Challenge.RW_unjump_k41_doubled
open Bool renaming false_ne_true->Bf9, and_eq_true->Bz9
open List renaming getElem?_eq_getElem->Aa, getElem?_eq_some_iff->Ab, getD_eq_getElem?_getD->Ad, mem_singleton->Af, length_append->Ag, length_map->Ai, range->Aj, mem_cons->Ak, mem_of_getElem?->Am, mem_cons_of_mem->An, mem_append->Ap, size_toArray->Aq, mem_map->Ar, map_append->As, length_singleton->Au, mem_cons_self->Aw, mem_append_left->Ax, map_cons->Az, getElem?_map->Ch, append_assoc->Db, getElem?_append_left->De, set_append_right->Df, getElem?_append_right->Dg, map_nil->Dh, mem_filter->Di, take_length->Dj, getElem?_set_ne->Dk, mem_reverse->Dl, mem_append_right->Dm, idxOf_lt_length_of_mem->Dn, getElem?_cons_succ->Dr, getElem?_set_self->Ds, nodup_append->Dt, length_eq_zero_iff->Du, getElem?_cons_zero->Dv, length_cons->Dy, reverse_reverse->Go, length_filter_le->Ha, append_nil->Hd, getElem_mem->He, not_mem_nil->Hf, mem_range->Hj, getElem?_eq_none->Hk, replicate->Hn, getElem?_range->Ho, nodup_cons->Hq, length_reverse->Ht, map_congr_left->Hu, getElem?_mapIdx->Hv, map_map->Hw, drop_eq_getElem_cons->Hx, length_take->Hz, all_eq_true->Ia, dropLast_concat_getLast->Ib, ext_getElem?->Ic, getElem_idxOf->Ih, lookup_cons->Ij, find?_cons->Im, nodup_range->Iq, contains_iff_mem->Iw, getElem?_of_mem->Ke, sum_append->Kf, cons_append->Kh, length_range->Kj, range_succ->Kl, dropLast_concat->Kn, all_cons->Ko, length_nil->Ku, countP_cons_of_pos->Ky, countP_congr->La, replicate_succ->Lc, any_cons->Le, sum_cons->Lf, Sublist->Li, set_append_left->Lj, countP_cons_of_neg->Lm, any_eq_true->Lo, filter_append->Lp, set_set->Lq, flatten_cons->Lx, sum_nil->Mf, filterMap_cons->Mg, getLast?_cons_cons->Mm, foldl_cons->Mp, nil_append->Mr, map_id->Mx, Pairwise->Tr, length->Ug
open PySem renaming wpAny_bind->Ac, wpAny_pure->Ao, wpAny_mono->Hl, wpAny_Call_Name_kw->Ik, wpAny_holding->Ka, Spec->Kb, codeAny_mono->Kw, wpAny_newObj_type->Kz, codeAny_builtin->Lb, wpAny_loadPart_at->Lk, wpAny_execs_nil->Lr, wpAny_passesOwn->Ls, plainId_quiet->Lw, wpAny_call->Ly, wpAny_tryCatch->Mc, mem_of_lookup->Mh, wpAny_isSubtype_exc->Mi, wpAny_standAt->Mn, call_meets->Mq, tupleKind_room_in1->Ms, sizeLine_eq->Mw, wpAny_execs_cons->Mz, wpAny_field->Ub, wpAny_Name->Uf
open PySem.W renaming Frag->Ae, keepIn->Hm, findIn->Iy, kia_one->Kc, kitOne->Kk, fnOf->Kv, mroIn->Lv, codeIn->Mb, clsIn->Ua, nsIn->Ue
open PySem.Heap renaming get?_push_of_some->Ah, lt_size->Dd, get?_push_size->Dp, get?_update_other->Ie, get?_update_self->Iu, SameBut->Lh, size_push->Ln
open List.Nodup renaming length_le_of_subset->Ay
open False renaming elim->Dq
open Sum renaming inl->Dw
open Option renaming bind_some->Dz, bind_none->Hg, join_some->Hh, map_eq_some_iff->Ig, getD_some->Ki, map_some->Ud
open Option.some renaming inj->Hb
open PySem.NameKind renaming free->Hi, cell->Io
open Int renaming toNat_natCast->Hr, emod_nonneg->Hy, emod_lt_of_pos->Ii, natCast_add->Kg, toNat_of_nonneg->Ks
open PySem.SeqAt renaming EqAt->Hs
open Ne renaming symm->Il
open Array renaming length_toList->Ir
open PyProof.Rows renaming slot_tuple_getitem->Ix
open PySem.Around renaming under_plainId->Km
open PySem.F renaming plain_min_loop->Kr
open PySem.SetTable renaming grown->Kx
open True renaming intro->Ld
open Classical renaming byContradiction->Lg
open LawfulBEq renaming eq_of_beq->Ll
open PySem.Calls renaming Name_function_global->Lu
open PySem.Builtin.Slice renaming slicePlaces->Lz
open PySem.Obj renaming mapSeq->Ma, mapFields->Mo, data_mapFields->Mu, isFreed_of_fields->My
open PySem.Builtin.Tuple renaming tupleExact->Md
open PySem.Builtin.List renaming listTooLong->Me
open PySem.Heap.SameBut renaming update->Mj
open PySem.Builtin.Str renaming occurrences->Ml
open Sum.inl renaming inj->Mv
open Iff renaming rfl->Uc
set_option tactic.hygienic false
set_option bootstrap.genMatcherCode false
set_option Elab.async false
set_option linter.all false
set_option maxRecDepth 100000
set_option genSizeOf false
set_option genInjectivity false
set_option compiler.extract_closed false
set_option autoImplicit true
set_option maxHeartbeats 0
namespace L2
open PySem
noncomputable def Xj(s:Stmt):Arguments:=match s with
 | .FunctionDef _ a _ _ _ _ _ _ _ _=>a
 | _=>{posonlyargs:=[],args:=[],vararg:=none,kwonlyargs:=[],kw_defaults:=[],kwarg:=none,defaults:=[]}
noncomputable def Y1(s:Stmt):List Stmt:=match s with
 | .FunctionDef _ _ b _ _ _ _ _ _ _=>b
 | _=>[]
noncomputable def Z7(s:Stmt):Scope:=match s with
 | .FunctionDef _ _ _ _ _ _ a _ _ _=>a
 | _=>{kind:= .function,names:=[],isGenerator:=false,isCoroutine:=false}
end L2
namespace K41
open PySem
noncomputable def top(i:Nat):Stmt:=PySem.Challenge.pw_unjump_k41_doubled.main.body.getD i (.Pass ⟨0,0,0,0⟩)
end K41
namespace Hand
open PySem PySem.Spec PyProof.Rows L2 K41
noncomputable def kf(n:Str)(i:Nat)(dV kV dc pm:Value)(an:Option Addr)(cd ct:Value):Obj:=⟨.type "function",none,.func (Kv n n (Xj (top i)) (Y1 (top i)) (Z7 (top i)) dV kV dc pm an cd ct),#[]⟩
noncomputable def kg(n:Str)(i:Nat)(m:Str)(t c:Nat):Obj:=kf n i .none .none .none (.str m t) none (.ref c) .none
noncomputable def kl(n:Str)(i c:Nat):Obj:=kg n i "law_unjump_k41_doubled" 348 c
noncomputable def kc(n:Str)(t:Nat)(l a:Int)(r:Nat)(x y:Int)(z:Nat):Obj:=⟨.type "code",none,.fields #[.str n t,.str n (t+1),.str "/claim/cut.py" (t+2),.int l 0,.int a 0,.int 0 0,.int 0 0,.int 3 0,.ref r,.bool true,.int x 0,.ref (r+1),.none,.ref (r+2),.ref (r+3),.ref (r+4),.int y 0,.int l 0,.str "/claim/cut.py" z],#[]⟩
noncomputable def ke(P:Params)(x:Str)(t:Nat)(v:Value):DictEntry:=⟨PyData.keyHash P x,.str x t,v⟩
noncomputable abbrev kd:Value:= .type "dict"
noncomputable abbrev kR(a:Nat):Value:= .ref a
noncomputable abbrev kS(x:Str)(t:Nat):Value:= .str x t
noncomputable def KH(P:Params):Ae:=(nat_lit 2,⟨.none,none,.dict #[] 0,#[]⟩)::(nat_lit 3,⟨kd,none,.dict #[ke P "__name__" 165 (kS "law_unjump_k41_doubled" 348),ke P "__doc__" 166 .none,ke P "__package__" 167 .none,ke P "__loader__" 168 (.builtin "__main__.__loader__#opaque"),ke P "__spec__" 169 .none,ke P "__annotations__" 170 (kR 6),ke P "__builtins__" 171 (kR 4),ke P "__file__" 173 (kS "/claim/cut.py" 172),ke P "__cached__" 174 .none,ke P "JumpError" 215 (kR 32),ke P "TooGreat" 231 (kR 45),ke P "ways" 240 (kR 54),ke P "with_ways" 248 (kR 61),ke P "walked" 263 (kR 68),ke P "numbered" 269 (kR 73),ke P "MOST_NODES" 271 (.int 40 270),ke P "set_left" 279 (kR 78),ke P "links_among" 285 (kR 83),ke P "turned" 291 (kR 88),ke P "come_to" 303 (kR 95),ke P "doors_of" 309 (kR 100),ke P "doubled" 317 (kR 105),ke P "chosen_head" 329 (kR 112),ke P "come_round" 335 (kR 117),ke P "put_copies" 341 (kR 122),ke P "led_to_copies" 347 (kR 127),ke P "_law_cell" 357 (kR 134),ke P "_law_mixed" 366 (kR 141),ke P "_law_great" 373 (kR 148),ke P "_law_far" 384 (kR 155),ke P "_law_node" 402 (kR 162),ke P "_law_goals" 409 (kR 169),ke P "_law_order" 422 (kR 176),ke P "_law_graph" 433 (kR 183),ke P "_law_drawn" 439 (kR 188),ke P "_law_alike" 448 (kR 195),ke P "_law_free" 459 (kR 202),ke P "_law_is_orderly" 468 (kR 209),ke P "_law_cut" 475 (kR 216),ke P "_law_is_like" 486 (kR 223),ke P "_law_reach" 497 (kR 230),ke P "_law_is_made" 503 (kR 235),ke P "_law_fits" 511 (kR 242),ke P "_law_doubled" 519 (kR 249),ke P "_law_set_counts" 525 (kR 254),ke P "_law_count" 531 (kR 259),ke P "_law_ring_node" 541 (kR 266),ke P "_law_ringed" 547 (kR 271),ke P "law" 561 (kR 278)] 49,#[]⟩)::(nat_lit 22,⟨(.type "tuple"),none,.seq #[.none] 0,#[]⟩)::(nat_lit 28,⟨(.type "code"),none,.fields #[(.str "__init__" 201),(.str "JumpError.__init__" 202),(.str "/claim/cut.py" 203),(.int 4 0),(.int 2 0),(.int 0 0),(.int 0 0),(.int 3 0),(.ref 23),(.bool true),(.int 181 0),(.ref 24),.none,(.ref 25),(.ref 26),(.ref 27),(.int 206 0),(.int 4 0),(.str "/claim/cut.py" 207)],#[]⟩)::(nat_lit 29,{cls:=Value.type "function",data:=Data.func {name:=Str.ofString "__init__",qualname:=Str.ofString "JumpError.__init__",params:={posonlyargs:=[],args:=[{arg:=Str.ofString "self",annotation:=none,pos:={line:=4,col:=17,endLine:=4,endCol:=21}},{arg:=Str.ofString "row",annotation:=none,pos:={line:=4,col:=23,endLine:=4,endCol:=26}}],vararg:=none,kwonlyargs:=[],kw_defaults:=[],kwarg:=none,defaults:=[Expr.Constant Const.none 0 {line:=4,col:=27,endLine:=4,endCol:=31}]},body:=FuncBody.stmts [Stmt.Assign [(Expr.Name (Str.ofString "self") {line:=5,col:=8,endLine:=5,endCol:=12}).Attribute (Str.ofString "row") {line:=5,col:=8,endLine:=5,endCol:=16}] (Expr.Name (Str.ofString "row") {line:=5,col:=19,endLine:=5,endCol:=22}) {line:=5,col:=8,endLine:=5,endCol:=22}],scope:={kind:=ScopeKind.function,names:=[(Str.ofString "self",NameKind.local),(Str.ofString "row",NameKind.local)],isGenerator:=false,isCoroutine:=false},globals:=3,closure:=[],defaults:=Value.ref 22,kwdefaults:=Value.none,pyModule:=Value.str (Str.ofString "unjump.errors") 187,code:=Value.ref 28}})::(nat_lit 30,⟨(.type "tuple"),none,.seq #[(.str "row" 209)] 0,#[]⟩)::(nat_lit 31,⟨kd,none,.dict #[ke P "__module__" 196 (kS "unjump.errors" 187),ke P "__firstlineno__" 200 (.int 2 199),ke P "__init__" 208 (kR 29),ke P "__static_attributes__" 210 (kR 30),ke P "__weakref__" 212 (kR 33),ke P "__doc__" 213 .none] 3,#[]⟩)::(nat_lit 32,{cls:=Value.type "type",data:=Data.cls {name:=Str.ofString "JumpError",bases:=[Value.type "ValueError"],mro:=[Value.ref 32,Value.type "ValueError",Value.type "Exception",Value.type "BaseException",Value.type "object"],ns:=31,qualname:=Str.ofString "JumpError",subclasses:=[Value.ref 45]},slots:=#[some (Value.ref 15),none,some (Value.str (Str.ofString "JumpError") 189),some (Value.str (Str.ofString "JumpError") 197),some (Value.builtin "ValueError.__new__"),some (Value.bool true)]})::(nat_lit 43,⟨(.type "tuple"),none,.seq #[] 0,#[]⟩)::(nat_lit 44,⟨kd,none,.dict #[ke P "__module__" 223 (kS "unjump.errors" 187),ke P "__firstlineno__" 227 (.int 6 226),ke P "__static_attributes__" 228 (kR 43),ke P "__doc__" 229 .none] 2,#[]⟩)::(nat_lit 45,{cls:=Value.type "type",data:=Data.cls {name:=Str.ofString "TooGreat",bases:=[Value.ref 32],mro:=[Value.ref 45,Value.ref 32,Value.type "ValueError",Value.type "Exception",Value.type "BaseException",Value.type "object"],ns:=44,qualname:=Str.ofString "TooGreat"},slots:=#[some (Value.ref 36),none,some (Value.str (Str.ofString "TooGreat") 216),some (Value.str (Str.ofString "TooGreat") 224),some (Value.builtin "ValueError.__new__"),some (Value.bool true)]})::(nat_lit 53,kc "ways" 234 9 1 48 181 238 239)::(nat_lit 54,kg "ways" 4 "unjump.nodes" 232 53)::(nat_lit 60,kc "with_ways" 241 15 2 55 181 246 247)::(nat_lit 61,kg "with_ways" 5 "unjump.nodes" 232 60)::(nat_lit 67,kc "walked" 249 21 2 62 181 261 262)::(nat_lit 68,kg "walked" 6 "unjump.nodes" 232 67)::(nat_lit 72,⟨(.type "code"),none,.fields #[(.str "numbered" 264),(.str "numbered" 265),(.str "/claim/cut.py" 266),(.int 41 0),(.int 2 0),(.int 0 0),(.int 0 0),(.int 3 0),(.ref 69),(.bool true),(.int 181 0),(.ref 70),.none,.none,.none,(.ref 71),(.int 267 0),(.int 41 0),(.str "/claim/cut.py" 268)],#[]⟩)::(nat_lit 73,kg "numbered" 7 "unjump.nodes" 232 72)::(nat_lit 77,⟨(.type "code"),none,.fields #[(.str "set_left" 274),(.str "set_left" 275),(.str "/claim/cut.py" 276),(.int 46 0),(.int 2 0),(.int 0 0),(.int 0 0),(.int 3 0),(.ref 74),(.bool true),(.int 181 0),(.ref 75),.none,.none,.none,(.ref 76),(.int 277 0),(.int 46 0),(.str "/claim/cut.py" 278)],#[]⟩)::(nat_lit 78,kg "set_left" 10 "unjump.rings" 272 77)::(nat_lit 82,⟨(.type "code"),none,.fields #[(.str "links_among" 280),(.str "links_among" 281),(.str "/claim/cut.py" 282),(.int 55 0),(.int 2 0),(.int 0 0),(.int 0 0),(.int 3 0),(.ref 79),(.bool true),(.int 181 0),(.ref 80),.none,.none,.none,(.ref 81),(.int 283 0),(.int 55 0),(.str "/claim/cut.py" 284)],#[]⟩)::(nat_lit 83,kg "links_among" 11 "unjump.rings" 272 82)::(nat_lit 87,⟨(.type "code"),none,.fields #[(.str "turned" 286),(.str "turned" 287),(.str "/claim/cut.py" 288),(.int 58 0),(.int 1 0),(.int 0 0),(.int 0 0),(.int 3 0),(.ref 84),(.bool true),(.int 181 0),(.ref 85),.none,.none,.none,(.ref 86),(.int 289 0),(.int 58 0),(.str "/claim/cut.py" 290)],#[]⟩)::(nat_lit 88,kg "turned" 12 "unjump.rings" 272 87)::(nat_lit 94,kc "come_to" 292 64 3 89 181 301 302)::(nat_lit 95,kg "come_to" 13 "unjump.rings" 272 94)::(nat_lit 99,⟨(.type "code"),none,.fields #[(.str "doors_of" 304),(.str "doors_of" 305),(.str "/claim/cut.py" 306),(.int 74 0),(.int 2 0),(.int 0 0),(.int 0 0),(.int 3 0),(.ref 96),(.bool true),(.int 181 0),(.ref 97),.none,.none,.none,(.ref 98),(.int 307 0),(.int 74 0),(.str "/claim/cut.py" 308)],#[]⟩)::(nat_lit 100,kg "doors_of" 14 "unjump.rings" 272 99)::(nat_lit 104,⟨(.type "code"),none,.fields #[(.str "doubled" 312),(.str "doubled" 313),(.str "/claim/cut.py" 314),(.int 83 0),(.int 1 0),(.int 0 0),(.int 0 0),(.int 3 0),(.ref 101),(.bool true),(.int 181 0),(.ref 102),.none,.none,.none,(.ref 103),(.int 315 0),(.int 83 0),(.str "/claim/cut.py" 316)],#[]⟩)::(nat_lit 105,kg "doubled" 16 "unjump.doubling" 310 104)::(nat_lit 111,kc "chosen_head" 318 99 3 106 181 327 328)::(nat_lit 112,kg "chosen_head" 17 "unjump.doubling" 310 111)::(nat_lit 116,⟨(.type "code"),none,.fields #[(.str "come_round" 330),(.str "come_round" 331),(.str "/claim/cut.py" 332),(.int 101 0),(.int 4 0),(.int 0 0),(.int 0 0),(.int 3 0),(.ref 113),(.bool true),(.int 181 0),(.ref 114),.none,.none,.none,(.ref 115),(.int 333 0),(.int 101 0),(.str "/claim/cut.py" 334)],#[]⟩)::(nat_lit 117,kg "come_round" 18 "unjump.doubling" 310 116)::(nat_lit 121,⟨(.type "code"),none,.fields #[(.str "put_copies" 336),(.str "put_copies" 337),(.str "/claim/cut.py" 338),(.int 104 0),(.int 4 0),(.int 0 0),(.int 0 0),(.int 3 0),(.ref 118),(.bool true),(.int 181 0),(.ref 119),.none,.none,.none,(.ref 120),(.int 339 0),(.int 104 0),(.str "/claim/cut.py" 340)],#[]⟩)::(nat_lit 122,kg "put_copies" 19 "unjump.doubling" 310 121)::(nat_lit 126,⟨(.type "code"),none,.fields #[(.str "led_to_copies" 342),(.str "led_to_copies" 343),(.str "/claim/cut.py" 344),(.int 112 0),(.int 2 0),(.int 0 0),(.int 0 0),(.int 3 0),(.ref 123),(.bool true),(.int 181 0),(.ref 124),.none,.none,.none,(.ref 125),(.int 345 0),(.int 112 0),(.str "/claim/cut.py" 346)],#[]⟩)::(nat_lit 127,kg "led_to_copies" 20 "unjump.doubling" 310 126)::(nat_lit 133,kc "_law_cell" 350 115 2 128 181 355 356)::(nat_lit 134,kl "_law_cell" 22 133)::(nat_lit 140,kc "_law_mixed" 358 119 2 135 181 364 365)::(nat_lit 141,kl "_law_mixed" 23 140)::(nat_lit 147,kc "_law_great" 367 122 1 142 181 371 372)::(nat_lit 148,kl "_law_great" 24 147)::(nat_lit 154,kc "_law_far" 374 124 4 149 181 382 383)::(nat_lit 155,kl "_law_far" 25 154)::(nat_lit 161,kc "_law_node" 385 135 4 156 181 400 401)::(nat_lit 162,kl "_law_node" 26 161)::(nat_lit 168,kc "_law_goals" 403 149 1 163 181 407 408)::(nat_lit 169,kl "_law_goals" 27 168)::(nat_lit 175,kc "_law_order" 410 155 1 170 181 420 421)::(nat_lit 176,kl "_law_order" 28 175)::(nat_lit 182,kc "_law_graph" 423 170 1 177 181 431 432)::(nat_lit 183,kl "_law_graph" 29 182)::(nat_lit 187,⟨(.type "code"),none,.fields #[(.str "_law_drawn" 434),(.str "_law_drawn" 435),(.str "/claim/cut.py" 436),(.int 181 0),(.int 3 0),(.int 0 0),(.int 0 0),(.int 3 0),(.ref 184),(.bool true),(.int 181 0),(.ref 185),.none,.none,.none,(.ref 186),(.int 437 0),(.int 181 0),(.str "/claim/cut.py" 438)],#[]⟩)::(nat_lit 188,kl "_law_drawn" 30 187)::(nat_lit 194,kc "_law_alike" 440 188 2 189 181 446 447)::(nat_lit 195,kl "_law_alike" 31 194)::(nat_lit 201,kc "_law_free" 449 205 2 196 181 457 458)::(nat_lit 202,kl "_law_free" 32 201)::(nat_lit 208,kc "_law_is_orderly" 460 217 1 203 181 466 467)::(nat_lit 209,kl "_law_is_orderly" 33 208)::(nat_lit 215,kc "_law_cut" 469 223 1 210 181 473 474)::(nat_lit 216,kl "_law_cut" 34 215)::(nat_lit 222,kc "_law_is_like" 476 229 3 217 181 484 485)::(nat_lit 223,kl "_law_is_like" 35 222)::(nat_lit 229,kc "_law_reach" 487 239 2 224 181 495 496)::(nat_lit 230,kl "_law_reach" 36 229)::(nat_lit 234,⟨(.type "code"),none,.fields #[(.str "_law_is_made" 498),(.str "_law_is_made" 499),(.str "/claim/cut.py" 500),(.int 248 0),(.int 3 0),(.int 0 0),(.int 0 0),(.int 3 0),(.ref 231),(.bool true),(.int 181 0),(.ref 232),.none,.none,.none,(.ref 233),(.int 501 0),(.int 248 0),(.str "/claim/cut.py" 502)],#[]⟩)::(nat_lit 235,kl "_law_is_made" 37 234)::(nat_lit 241,kc "_law_fits" 504 261 2 236 181 509 510)::(nat_lit 242,kl "_law_fits" 38 241)::(nat_lit 248,kc "_law_doubled" 512 269 1 243 181 517 518)::(nat_lit 249,kl "_law_doubled" 39 248)::(nat_lit 253,⟨(.type "code"),none,.fields #[(.str "_law_set_counts" 520),(.str "_law_set_counts" 521),(.str "/claim/cut.py" 522),(.int 276 0),(.int 2 0),(.int 0 0),(.int 0 0),(.int 3 0),(.ref 250),(.bool true),(.int 181 0),(.ref 251),.none,.none,.none,(.ref 252),(.int 523 0),(.int 276 0),(.str "/claim/cut.py" 524)],#[]⟩)::(nat_lit 254,kl "_law_set_counts" 40 253)::(nat_lit 258,⟨(.type "code"),none,.fields #[(.str "_law_count" 526),(.str "_law_count" 527),(.str "/claim/cut.py" 528),(.int 287 0),(.int 1 0),(.int 0 0),(.int 0 0),(.int 3 0),(.ref 255),(.bool true),(.int 181 0),(.ref 256),.none,.none,.none,(.ref 257),(.int 529 0),(.int 287 0),(.str "/claim/cut.py" 530)],#[]⟩)::(nat_lit 259,kl "_law_count" 41 258)::(nat_lit 265,kc "_law_ring_node" 532 301 4 260 181 539 540)::(nat_lit 266,kl "_law_ring_node" 42 265)::(nat_lit 270,⟨(.type "code"),none,.fields #[(.str "_law_ringed" 542),(.str "_law_ringed" 543),(.str "/claim/cut.py" 544),(.int 307 0),(.int 1 0),(.int 0 0),(.int 0 0),(.int 3 0),(.ref 267),(.bool true),(.int 181 0),(.ref 268),.none,.none,.none,(.ref 269),(.int 545 0),(.int 307 0),(.str "/claim/cut.py" 546)],#[]⟩)::(nat_lit 271,kl "_law_ringed" 43 270)::(nat_lit 277,kc "law" 548 325 1 272 181 559 560)::(nat_lit 278,kl "law" 44 277)::[]
noncomputable def qH:Program:={PySem.Challenge.pw_unjump_k41_doubled with main:={PySem.Challenge.pw_unjump_k41_doubled.main with body:=[top 44]}}
noncomputable def lH:List Str:="JumpError"::"TooGreat"::"ways"::"with_ways"::"walked"::"numbered"::"MOST_NODES"::"set_left"::"links_among"::"turned"::"come_to"::"doors_of"::"doubled"::"chosen_head"::"come_round"::"put_copies"::"led_to_copies"::"_law_cell"::"_law_mixed"::"_law_great"::"_law_far"::"_law_node"::"_law_goals"::"_law_order"::"_law_graph"::"_law_drawn"::"_law_alike"::"_law_free"::"_law_is_orderly"::"_law_cut"::"_law_is_like"::"_law_reach"::"_law_is_made"::"_law_fits"::"_law_doubled"::"_law_set_counts"::"_law_count"::"_law_ring_node"::"_law_ringed"::[]
noncomputable def aH:List Addr:=2::3::22::28::29::30::31::32::43::44::45::53::54::60::61::67::68::72::73::77::78::82::83::87::88::94::95::99::100::104::105::111::112::116::117::121::122::126::127::133::134::140::141::147::148::154::155::161::162::168::169::175::176::182::183::187::188::194::195::201::202::208::209::215::216::222::223::229::230::234::235::241::242::248::249::253::254::258::259::265::266::270::271::277::278::[]
theorem eH(P:Params):aH=(KH P).map (·.1):=by kernel_rfl
theorem wS:PySem.Challenge.rw_unjump_k41_doubled.wellSaid=true:=by kernel_rfl
theorem hlH:PySem.W.LeftO PySem.Challenge.pw_unjump_k41_doubled qH lH (λs=>PySem.W.xlAt qH [] s&&PySem.W.recOk [] s) (PySem.W.Hook.obs (PySem.W.kmHook KH aH eH [107])) (PySem.W.Hook.val (PySem.W.kmHook KH aH eH [107])) 3310:=by intro w;kernel_rfl
end Hand
def tmI(x:Lean.TSyntax `term):Lean.MacroM (Lean.TSyntax `term):=do
 if x.raw.isNatLit?.isSome then return<-`(.int $x)
 if x.raw.isStrLit?.isSome then return<-`(.str $x)
 let s:=x.raw.getId.toString
 if x.raw.isIdent&&s.front=='v'&&(s.drop 1).all Char.isDigit then return<-`(.var $(Lean.Syntax.mkNumLit (s.drop 1).toString))
 return x
def rcP:Nat->Lean.Syntax->Lean.MacroM (Lean.TSyntax `rcasesPat)
 | 0,_=>Lean.Macro.throwUnsupported
 | n+1,x=>do
  if x.isOfKind `Lean.Parser.Term.anonymousCtor then
   let a<-x[1].getSepArgs.mapM fun y=>do `(Lean.Parser.Tactic.rcasesPatLo| $(<-rcP n y):rcasesPat)
   `(rcasesPat| ⟨$a,*⟩)
  else if x.isOfKind `Lean.Parser.Term.tuple then
   let a<-(#[x[1][0]]++x[1][2].getSepArgs).mapM fun y=>do `(Lean.Parser.Tactic.rcasesPatLo| $(<-rcP n y):rcasesPat)
   `(rcasesPat| ⟨$a,*⟩)
  else if x.isOfKind `Lean.Parser.Term.hole then `(rcasesPat| _)
  else if x.isIdent then `(rcasesPat| $(Lean.mkIdentFrom x x.getId):ident)
  else Lean.Macro.throwUnsupported
local macro_rules | `(tactic| let ⟨$x,*⟩:=$v)=>do `(tactic| obtain $(<-rcP 9 (<-`(⟨$x,*⟩))):rcasesPat := $v)
local macro_rules | `(⇑$X)=>`(PySem.wpAny (PySem.model ($X).prog ($X).w) ($X).A)
set_option hygiene false
local macro_rules | `(tactic| left)=>`(tactic| exact absurd h Bf9)
set_option hygiene true
abbrev VSP:=PySem.Value->PySem.Shared->Prop
abbrev PLO:=List (PySem.Addr×PySem.Obj)
local macro_rules | `(tactic| show $t)=>`(tactic| refine $t)
abbrev LS:=List PySem.Str
abbrev LW:=List PySem.Value
abbrev LQ:=List Nat
open PySem renaming Value→Uh, Shared→Ui, Addr→Uj, Program→Uk, World→Ul, Heap→Um
def na:=@Nat.le_refl
def nc:=@if_neg
def ng:=@if_pos
def nh:=@Nat.lt_of_lt_of_le
def ni:=@Nat.le_trans
def nj:=@Nat.ne_of_lt
def nk:=@Nat.zero_le
def nq:=@Nat.ne_of_gt
def nv:=@Nat.lt_irrefl
def mf:=@Nat.le_of_lt
def mm:=@decide_eq_false
def mn:=@Nat.le_succ
local macro_rules | `(↥$x)=>`(by simpa using $x)
local macro_rules | `($x⁻¹)=>`(($x).heap.objs.size)
set_option hygiene false
local macro_rules | `('v')=>`(Inv X pins σ H s)|`('c')=>`(cxC X N' scope cl' h3.objs.size fp pins {s2 with heap:=h3} (upd H2 s2⁻¹ (.lst [])))|`('f')=>`(absurd (show false=true from f) Bf9)|`('x')=>`(.of KX G _ _ _ _)
set_option hygiene true
local macro_rules | `(tactic| erw[$[$x:term],*]$[$l]?)=>`(tactic| simp only[$[$x:term],*]$[$l]?)
local macro_rules | `(tactic| ext $x:ident)=>`(tactic| unfold $x) | `(tactic| ext $h:ident $x:ident)=>`(tactic| unfold $x at $h:ident)
local macro_rules | `('d')=>`(by decide)
local macro_rules | `('s')=>`(by simp)
local macro_rules | `('o')=>`(by lia)
local macro_rules | `('k')=>`(by decide+kernel)
local macro_rules | `(tactic| symm)=>`(tactic| try walk_at "ew")
local macro_rules | `(tactic| rfl')=>`(tactic| try walk_at "ev")
local macro_rules | `(↑$x)=>`(some (.ref $x))
local macro_rules (kind:=Lean.Parser.Command.declaration) | s=>do
 unless s[0][4].getNumArgs==0&&(s[1].getKind==`Lean.Parser.Command.definition||s[1].getKind==`Lean.Parser.Command.abbrev) do Lean.Macro.throwUnsupported
 return s.setArg 0 (s[0].setArg 4 (<-`(command| noncomputable def x:=0)).raw[0][4])
local macro_rules | `(tactic| let ($x,$y,*):=$v)=>do `(tactic| obtain $(<-rcP 9 (<-`(($x,$y,*)))):rcasesPat := $v)
local macro_rules | `(($a,$b,*))=>`(⟨$a,$b,*⟩)
local macro_rules | `(#v[$a,$b])=>`(Prod.mk $a $b) | `(#v[$a,$b,$c])=>`(Prod.mk $a (Prod.mk $b $c)) | `(#v[$a,$b,$c,$d])=>`(Prod.mk $a (Prod.mk $b (Prod.mk $c $d)))
namespace L2
open PySem PySem.Spec PyProof.Rows
abbrev Key:=Sum Int Str
def G5:Key->Uh->Bool
 | .inl k,v=>Value.isInt k v
 | .inr x,v=>Value.isStrOf x v
def keyH(w:Ul):Key->Int
 | .inl k=>hashInt k
 | .inr x=>hashStr w x
def Zs:∀{k:Key} {v:Uh},G5 k v=true->(∃i t,k=Dw i/\v=Value.int i t)\/(∃x t,k=Sum.inr x/\v=Value.str x t)
 | .inl i,v,h=>by let(t,e):=Value.isInt_shape (k:=i) (v:=v) h;show .inl (i,t,rfl,e)
 | .inr x,v,h=>by let(t,e):=Value.isStrOf_shape (x:=x) (v:=v) h;show .inr (x,t,rfl,e)
def Zc0(i:Int)(t:Tok):G5 (.inl i) (.int i t)=true:=by simp[G5,Value.isInt]
def Zn9(x:Str)(t:Tok):G5 (.inr x) (.str x t)=true:=by simp[G5,Value.isStrOf]
def Yk7(a b:Int):decide ((Dw a:Key)=Dw b)=(a==b):=by
 by_cases e:a=b
 .subst e;simp
 .have h:¬(Dw a:Key)=Dw b:=λq=>e (Mv q);rw[mm h];show(beq_eq_false_iff_ne.mpr e).symm
def Yn4(a b:Str):decide ((Sum.inr a:Key)=Sum.inr b)=decide (a=b):=by
 by_cases e:a=b
 .subst e;simp
 .have h:¬(Sum.inr a:Key)=Sum.inr b:=λq=>e (Sum.inr.inj q);rw[mm h,mm e]
def Yh0(a:Int)(b:Str):decide ((Dw a:Key)=Sum.inr b)=false:=mm (λq=>nomatch q)
def Yj4(a:Str)(b:Int):decide ((Sum.inr a:Key)=Dw b)=false:=mm (λq=>nomatch q)
def Zl(prog:Uk)(w:Ul):PySem.KeyKind prog w Key where
 is:=G5
 hash:=keyH w
 inj:=λv a b g d=>by
  rcases Zs g with⟨i,t,rfl,rfl⟩|⟨x,t,rfl,rfl⟩
  .rcases Zs d with⟨j,u,rfl,e⟩|⟨y,u,rfl,e⟩
   .injection e with e1 _;rw[e1]
   .show nomatch e
  .rcases Zs d with⟨j,u,rfl,e⟩|⟨y,u,rfl,e⟩
   .show nomatch e
   .injection e with e1 _;rw[e1]
 byValue:=λk v h=>by rcases Zs h with⟨i,t,rfl,rfl⟩|⟨x,t,rfl,rfl⟩<;>rfl
 pyHash:=λc h=>by
  rcases Zs c with⟨i,t,rfl,rfl⟩|⟨x,t,rfl,rfl⟩
  .show wpAny_pyHash_int h
  .show wpAny_pyHash_str h
 eqBool:=λf c h=>by
  rcases Zs f with⟨i,t,rfl,rfl⟩|⟨x,t,rfl,rfl⟩
  .rcases Zs c with⟨j,u,rfl,rfl⟩|⟨y,u,rfl,rfl⟩
   .rw[Yk7] at h;show wpAny_eqBool_int h
   .rw[Yh0] at h;show Hs.int_str i t y u _ _ _ _ h
  .rcases Zs c with⟨j,u,rfl,rfl⟩|⟨y,u,rfl,rfl⟩
   .rw[Yj4] at h;show Hs.str_int x t j u _ _ _ _ h
   .rw[Yn4] at h;show wpAny_eqBool_str h
 «strs»:=λk x t v h=>by
  rcases Zs h with⟨i,u,rfl,e⟩|⟨y,u,rfl,e⟩
  .show nomatch e
  .injection e with e1 _;subst e1;cases v<;>rfl
def Z67(prog:Uk)(w:Ul)(k:Key)(v:Uh):(Zl prog w).is k v=G5 k v:=rfl
def Er(prog:Uk)(w:Ul)(i:Int)(t:Tok):(Zl prog w).is (.inl i) (.int i t)=true:=Zc0 i t
def Cf(prog:Uk)(w:Ul)(x:Str)(t:Tok):(Zl prog w).is (.inr x) (.str x t)=true:=Zn9 x t
set_option genInjectivity true in
inductive V where
 | non | bl (b:Bool) | int (i:Int) | str (x:Str) | byt (b:Array UInt8) | flt (b:UInt64) | ref (a:Uj) | ty (n:String)
 deriving DecidableEq
abbrev LV:=List V
def RelV:V->Uh->Prop
 | .non,u=>u=Value.none
 | .bl b,u=>u=Value.bool b
 | .int i,u=>∃t,u=Value.int i t
 | .str x,u=>∃t,u=Value.str x t
 | .byt b,u=>∃t,u=Value.bytes b t
 | .flt b,u=>∃t,u=Value.float b t
 | .ref a,u=>u=Value.ref a
 | .ty n,u=>u=Value.type n
abbrev Vals:LV->LW->Prop:=Paired RelV
def Vals.length{xs:LV}{us:LW}(r:Vals xs us):xs.length=us.length:=Paired.length r
def Vals.get:∀{xs:LV} {us:LW} {i:Nat} {x:V},Vals xs us->xs[i]?=some x->∃u,us[i]?=some u/\RelV x u
 | _,_,_,_,.nil,e=>by simp at e
 | _,_,0,_,.cons r _,e=>by simp at e;subst e;show(_,rfl,r)
 | _,_,i+1,x,.cons _ t,e=>by let(u,b,a):=Vals.get (i:=i) (x:=x) t ↥e;show(u,↥b,a)
def Vals.set{x:V}{u:Uh}(r:RelV x u):∀{xs:LV} {us:LW} (i:Nat),Vals xs us->Vals (xs.set i x) (us.set i u)
 | _,_,_,.nil=> .nil
 | _,_,0,.cons _ t=> .cons r t
 | _,_,i+1,.cons q t=> .cons q (Vals.set r i t)
def Vals.append:∀{xs ys:LV} {us a:LW},Vals xs us->Vals ys a->Vals (xs++ys) (us++a):=by
 intro xs ys us a h s;induction h with
 | nil=>show s
 | cons r t ih=>show .cons r ih
def Vals.take:∀{xs:LV} {us:LW} (n:Nat),Vals xs us->Vals (xs.take n) (us.take n)
 | _,_,0,_=> .nil
 | _,_,_+1,.nil=> .nil
 | _,_,n+1,.cons r t=> .cons r (Vals.take n t)
def Vals.drop:∀{xs:LV} {us:LW} (n:Nat),Vals xs us->Vals (xs.drop n) (us.drop n)
 | _,_,0,r=>r
 | _,_,_+1,.nil=> .nil
 | _,_,n+1,.cons _ t=>Vals.drop n t
def RelO:Option V->Option Uh->Prop
 | some v,some u=>RelV v u
 | none,none=>True
 | _,_=>False
def KV{a:Type}:List (a×V)->List (a×Uh)->Prop:=Paired fun(p:a×V) (q:a×Uh)=>p.1=q.1/\RelV p.2 q.2
def kV:Key->V
 | .inl i=> .int i
 | .inr x=> .str x
inductive HO where
 | lst (xs:LV)
 | tup (xs:LV)
 | dK (kvs:List (Key×V)) | dT (kvs:List (List Key×V))
 | set (S:Int->Bool) (n:Nat)
 | ins (C dx:Uj) (fs:List (Str×V))
 | own (x:Uj)
 | xd (fs:List (Str×V))
 | met (f x:Uj)
 | rng (lo hi:Int)
 | frz (o:Obj) (u:HO)
 | tbl (ps:Array Uh)
 | ext (φ:Um->Prop)
abbrev Hp:=Uj->Option HO
def upd(H:Hp)(a:Uj)(o:HO):Hp:=λb=>if b=a then some o else H b
def Zc{H:Hp}{a:Uj}{o:HO}:upd H a o a=some o:=by ext upd;rw[ng rfl]
def Z6{H:Hp}{a b:Uj}{o:HO}(h:b≠a):upd H a o b=H b:=by ext upd;rw[nc h]
def Ys7{H:Hp}{a b:Uj}{o u:HO}(h:H a=some o)(h':H b=some u)(d:o≠u):a≠b:=by intro e;subst e;rw[h] at h';show d (Hb h')
def Zn{H:Hp}{a b:Uj}{o:HO}(h:H a=some o)(h':H b=none):a≠b:=by intro e;subst e;rw[h] at h';cases h'
section
variable(P:Uk)(w:Ul)
def Yb(H:Hp)(h:Um)(a:Uj):HO->Prop
 | .lst d=>d.length<=sizeLine/\∃(c:LW) (n:Nat),Vals d c/\h.get? a=some {cls:= .type "list",data:= .seq c.toArray n}
 | .tup d=>d.length<=sizeLine/\∃c:LW,Vals d c/\IsTup h a c.toArray
 | .dK b=>b.length<=sizeLine/\(a==sysModules)=false/\∃k,KV b k/\h.DictOf (Zl P w) a k
 | .dT b=>b.length<=sizeLine/\(a==sysModules)=false/\∃d:List (List Key×Uj×Uh),
   Paired (fun(p:List Key×V) (q:List Key×Uj×Uh)=>p.1=q.1/\H q.2.1=some (.tup (p.1.map kV))/\RelV p.2 q.2.2) b d/\
   ∃o r A,h.get? a=some o/\o.ExactDict/\o.data= .dict r A/\r.toList=d.map (entryOfKey (tupleKind (Zl P w)))/\(d.map (·.1)).Nodup
 | .set S n=>h.SetOf (intKind P w) a S n
 | .ins C i g=>H i=some (.own a)/\g.length<=1000/\i≠a/\h.get? a=some (PySem.W.instObj C i)/\
   ∃e,h.Ns1 i e/\(∀f,RelO (g.lookup f) (e f))/\PySem.Within e (g.map (·.1))
 | .own _=>∃o,h.get? a=some o
 | .xd g=>∃e,h.Ns1 a e/\∀f,RelO (g.lookup f) (e f)
 | .rng y z=>∃t u v,h.get? a=some {cls:= .type "range",data:= .fields #[.int y t,.int z u,.int 1 v]}
 | .frz o u=>h.get? a=some o/\Yb H h a u
 | .tbl s=>h.get? a=some {cls:= .none,data:= .fields s}
 | .met f x=>h.get? a=some (PySem.W.methodObj (.ref f) (.ref x))
 | .ext j=>j h/\(∃o,h.get? a=some o)/\∀m l:Um,j m->(∀o,m.get? a=some o->l.get? a=some o)->j l
def HOk(H:Hp)(h:Um):Prop:=∀a o,H a=some o->Yb P w H h a o
end
section
variable{P:Uk}{w:Ul}{H H':Hp}{h h':Um}{a:Uj}{o:HO}
def Yb.lt(x:Yb P w H h a o):a<h.objs.size:=by
 cases o with
 | lst c=>let(_,_,_,_,e):=x;show Dd e
 | tup c=>let(_,_,_,p):=x;show p.lt
 | dK b=>let(_,_,_,_,o,_,_,e,_):=x;show Dd e
 | dT b=>let(_,_,_,_,o,_,_,e,_):=x;show Dd e
 | set S n=>let(o,_,_,_,e,_):=x;show Dd e
 | ins C m d=>let(_,_,_,e,_):=x;show Dd e
 | own y=>let(_,e):=x;show Dd e
 | xd d=>let(_,(_,_,_,e,_),_):=x;show Dd e
 | rng k l=>let(_,_,_,e):=x;show Dd e
 | frz j u=>let(e,_):=x;show Dd e
 | tbl i=>show Dd (show h.get? a=some _ from x)
 | met f y=>show Dd (show h.get? a=some _ from x)
 | ext g=>let(_,(_,e),_):=x;show Dd e
def Paired.mapP{d c:Type}{F G:d->c->Prop}:∀{l₁:List d} {l₂:List c},Paired F l₁ l₂->(∀a b,F a b->G a b)->Paired G l₁ l₂:=by
 intro l₁ l₂ h f;induction h with
 | nil=>show .nil
 | cons r t ih=>show .cons (f _ _ r) ih
def Yb.stay(x:Yb P w H h a o)(k:∀b u,(b=a\/H b=some (.own a))->h.get? b=some u->h'.get? b=some u)
  (J:∀b,H b=some (.own a)->H' b=some (.own a)) (I:∀b xs,H b=some (.tup xs)->H' b=some (.tup xs)):Yb P w H' h' a o:=by
 induction o with
 | lst xs=>let(z,l,n,r,e):=x;show(z,l,n,r,k _ _ (.inl rfl) e)
 | tup xs=>let(z,l,r,g,e,c):=x;show(z,l,r,g,k _ _ (.inl rfl) e,c)
 | dK A=>let(z,y,E,r,g,i,j,e,c):=x;show(z,y,E,r,g,i,j,k _ _ (.inl rfl) e,c)
 | dT A=>let(z,y,xs,r,g,i,j,e,c):=x;show(z,y,xs,Paired.mapP r λp q z=>(z.1,I _ _ z.2.1,z.2.2),g,i,j,k _ _ (.inl rfl) e,c)
 | set S n=>let(g,i,j,t,e,c):=x;show(g,i,j,t,k _ _ (.inl rfl) e,c)
 | ins C Q K=>let(d,z,F,e,s,(m,i,j,L,c),r):=x;show(J _ d,z,F,k _ _ (.inl rfl) e,s,(m,i,j,k _ _ (.inr d) L,c),r)
 | own y=>let(g,e):=x;show(g,k _ _ (.inl rfl) e)
 | xd K=>let(s,(m,i,j,e,c),r):=x;show(s,(m,i,j,k _ _ (.inl rfl) e,c),r)
 | rng N O=>let(t,u,v,e):=x;show(t,u,v,k _ _ (.inl rfl) e)
 | frz g u G=>let(e,q):=x;show(k _ _ (.inl rfl) e,G q)
 | tbl D=>have e:h.get? a=some {cls:= .none,data:= .fields D}:=x;change h'.get? a=some {cls:= .none,data:= .fields D};show k a _ (.inl rfl) e
 | met f y=>have e:h.get? a=some (PySem.W.methodObj (.ref f) (.ref y)):=x;change h'.get? a=some (PySem.W.methodObj (.ref f) (.ref y));show k a _ (.inl rfl) e
 | ext M=>let(p,(o,e),B):=x;show(B _ _ p λo q=>k _ _ (.inl rfl) q,(o,k _ _ (.inl rfl) e),B)
def HOk.lt(x:HOk P w H h)(e:H a=some o):a<h.objs.size:=(x a o e).lt
def HOk.fresh(x:HOk P w H h)(e:h.objs.size<=a):H a=none:=by
 cases q:H a with
 | none=>rfl
 | some u=>show absurd (nh (x.lt q) e) (nv _)
def HOk.kept(x:HOk P w H h)(k:∀b u,h.get? b=some u->h'.get? b=some u):HOk P w H h':=λa o e=>
 (x a o e).stay (λb u _ q=>k b u q) (λ_ q=>q) λ_ _ q=>q
def HOk.laid(x:HOk P w H h)(k:∀b u,h.get? b=some u->h'.get? b=some u)(i:h.objs.size<=a)(d:Yb P w (upd H a o) h' a o):HOk P w (upd H a o) h':=λb u e=>by
 have f:=x.fresh i;by_cases g:b=a
 .subst g;rw[Zc] at e;cases e;show d
 .rw[Z6 g] at e;show(x b u e).stay (λc v _ q=>k c v q) (λc q=>by rw[Z6 (Zn q f)];show q) λc j q=>by rw[Z6 (Zn q f)];show q
end
def Rd(H:Hp)(a:Uj)(u:HO):Prop:=H a=some u\/∃o,H a=some (.frz o u)
def Rd.ok{P:Uk}{w:Ul}{H:Hp}{h:Um}{a:Uj}{u:HO}(r:Rd H a u)(x:HOk P w H h):Yb P w H h a u:=by
 rcases r with r|⟨o,r⟩
 .show x a u r
 .let(_,q):=x a _ r;show q
def Mut:Option HO->Prop
 | some (.lst _)=>True
 | some (.dK _)=>True
 | some (.dT _)=>True
 | some (.set _ _)=>True
 | some (.ins _ _ _)=>True
 | some (.ext _)=>True
 | _=>False
section
variable{P:Uk}{w:Ul}{H:Hp}{h h':Um}{x e:Uj}{o':HO}
def HOk.write(s:HOk P w H h)(i:Mut (H x))(p:e=x\/H e=some (.own x))(k:∀b u,b≠e->h.get? b=some u->h'.get? b=some u)(n:∃u,h'.get? e=some u)
  (m:Yb P w (upd H x o') h' x o'):HOk P w (upd H x o') h':=λb u q=>by
 have d:∀c y,H c=some (.own y)->c≠x:=λc y r z=>by subst z;rw[r] at i;show i
 have f:∀c g,H c=some (.tup g)->c≠x:=λc g r z=>by subst z;rw[r] at i;show i
 by_cases l:b=x
 .subst l;rw[Zc] at q;cases q;show m
 .rw[Z6 l] at q;by_cases a:b=e
  .have o:H b=some (.own x):=by
    rcases p with z|z
    .show absurd (a.trans z) l
    .rw[a];show z
   rw[q] at o;cases o;let(v,t):=n;show(v,by rw[a];show t)
  .refine(s b u q).stay (λc v j r=>k c v ?_ r) (λc r=>by rw[Z6 (d c b r)];show r) λc g r=>by rw[Z6 (f c g r)];show r
   rcases j with rfl|j
   .show a
   .rintro rfl;rcases p with z|z
    .show d c b j z
    .rw[j] at z;cases z;show l rfl
end
structure Un(fs ex:List Uj)(H H':Hp)(h h':Um):Prop where
 keep:∀b o,h.get? b=some o->H b=none->b∉fs->b∉ex->h'.get? b=some o
 slot:∀b o,h.get? b=some o->H b=none->b∈fs->b∉ex->∃sl,h'.get? b=some {o with slots:=sl}
 free:∀b o,h.get? b=some o->H b=none->b∉ex->H' b=none
 there:∀b o,h.get? b=some o->b∉ex->∃o',h'.get? b=some o'
 tups:∀b xs,H b=some (.tup xs)->H' b=some (.tup xs)
 frzs:∀b o u,H b=some (.frz o u)->H' b=some (.frz o u)
 tbls:∀b ps,H b=some (.tbl ps)->∃more,H' b=some (.tbl (ps++more))
section
variable{fs fs' ex ex':List Uj}{H H1 H2:Hp}{h h1 h2 h':Um}{a x e:Uj}{o:HO}
def Un.any(u:Un fs ex H H1 h h1){b:Uj}{c:Obj}(q:h.get? b=some c)(n:H b=none)(d:b∉ex):∃g,h1.get? b=some {c with slots:=g}:=by
 by_cases f:b∈fs
 .show u.slot b c q n f d
 .exact(c.slots,u.keep b c q n f d)
def Un.kept(k:∀b u,h.get? b=some u->h'.get? b=some u):Un fs ex H H h h':=
 (λb c q _ _ _=>k b c q,λb c q _ _ _=>(c.slots,k b c q),λ_ _ _ n _=>n,λb c q _=>(c,k b c q),λ_ _ q=>q,λ_ _ _ q=>q,λ_ d q=>(#[],by rw[q];simp))
def Un.refl:Un fs ex H H h h:=Un.kept λ_ _ q=>q
def Un.laid(k:∀b u,h.get? b=some u->h'.get? b=some u)(f:h.objs.size<=a)(c:H a=none):Un fs ex H (upd H a o) h h' where
 keep:=λb u q _ _ _=>k b u q
 slot:=λb u q _ _ _=>(u.slots,k b u q)
 free:=λb u q n _=>by rw[Z6 (nj (nh (Dd q) f))];show n
 there:=λb u q _=>(u,k b u q)
 tups:=λb d q=>by rw[Z6 (Zn q c)];show q
 frzs:=λb u d q=>by rw[Z6 (Zn q c)];show q
 tbls:=λb g q=>(#[],by rw[Z6 (Zn q c),q];simp)
def Un.write(d:Mut (H x))(p:e=x\/H e=some (.own x))(k:∀b u,b≠e->h.get? b=some u->h'.get? b=some u)(g:∃u,h'.get? e=some u):Un fs ex H (upd H x o) h h':=by
 have i:∀b,H b=none->b≠x:=λb n z=>by subst z;rw[n] at d;show d
 have j:∀b,H b=none->b≠e:=λb n z=>by
  subst z;rcases p with r|r
  .show i b n r
  .rw[n] at r;cases r
 have f:∀b u,H b=some u->¬Mut (some u)->b≠x:=λb u q m z=>by subst z;rw[q] at d;show m d
 show(λb u q n _ _=>k b u (j b n) q,λb u q n _ _=>(u.slots,k b u (j b n) q),λb u q n _=>by rw[Z6 (i b n)];show n,λb u q _=>?_,
  λb l q=>by rw[Z6 (f b _ q λz=>z)];show q,λb u l q=>by rw[Z6 (f b _ q λz=>z)];show q,λb s q=>(#[],by rw[Z6 (f b _ q λz=>z),q];simp))
 by_cases c:b=e
 .subst c;show g
 .exact(u,k b u c q)
end
def trk(h:Um)(H:Hp):List Uj:=(Aj h.objs.size).filter λa=>(H a).isSome
def hidT(h:Um)(H:Hp):Um:=PySem.W.hideAll h (trk h H)
def Zj3(h:Um)(H:Hp):(hidT h H).objs.size=h.objs.size:=PySem.W.hideAll_size _ _
def Zr3{h:Um}{H:Hp}{b:Uj}{o:Obj}(e:h.get? b=some o)(n:H b=none):(hidT h H).get? b=some o:=
 PySem.W.hideAll_get _ e λa=>by have q:(H b).isSome=true:=(Di.mp a).2;rw[n] at q;simp at q
def Ye3{h:Um}{H:Hp}{b:Uj}{o:Obj}(e:(hidT h H).get? b=some o):h.get? b=some o/\H b=none:=by
 have a:h.get? b=some o:=PySem.W.of_hideAll (trk h H) e;show(a,?_);cases q:H b with
 | none=>rfl
 | some x=>have c:b∈trk h H:=Di.mpr (Hj.mpr (Dd a),by simp[q]);have z:(hidT h H).get? b=none:=PySem.W.hideAll_none (trk h H) c;rw[z] at e;cases e
def Yf5(g h:Um)(L:Uj):PLO:=(Aj h.objs.size).filterMap λa=>if a=L\/(g.get? a).isSome=true then none else(h.get? a).map λo=>#v[a,o]
def rest(g h:Um)(L d:Uj):PLO:=(Yf5 g h L).filter λp=>decide (p.1≠d)
structure Mod(K:Ae)(mg:Str->Option Uh)(base:Um):Prop where
 kin:K.In base
 glob:base.Ns mainGlobals mg
 blt:∃mb,base.Ns builtinsNs mb/\∀x:Str,x≠"__name__"->mb x=bootBuiltins x
 nolimit:base.NoLimit
structure Cx where
 prog:Uk
 w:Ul
 K:Ae
 mg:Str->Option Uh
 base:Um
 A:Around
 N:LS
 s₀:Ui
 H₀:Hp
 env:Env
 outer:List Env
 stack:List Env
 ex:List Uj
 fn:Str->Bool
 calm:Bool
 pn:PLO
 xe:VSP
def frs(l:List Env):List Uj:=l.filterMap (·.frame)
abbrev Cx.fs(X:Cx):List Uj:=frs X.outer
def Vis(a:Scope)(x:Str):Prop:=a.names.lookup x=some .local\/a.names.lookup x=some .cell\/a.names.lookup x=some .free
def Loc(a:Scope)(x:Str):Prop:=a.names.lookup x=some .local\/a.names.lookup x=some .cell
def Look(env:Env)(h:Um)(m:Str->Option Uh)(x:Str)(u:Uh):Prop:=
 (env.kindOf x=some .local/\m x=some u)\/((env.kindOf x=some .cell\/env.kindOf x=some .free)/\∃c,env.cells.lookup x=some c/\h.IsCell c (some u))
structure Cx.Ok(X:Cx):Prop where
 mod:Mod X.K X.mg X.base
 kind:X.env.scope.kind= .function
 glob:X.env.globals=mainGlobals
 blt:X.env.builtins=builtinsNs
 above:X.s₀⁻¹<=X.env.locals
 inj:∀x y c,X.env.cells.lookup x=some c->X.env.cells.lookup y=some c->x=y
 has:∀x,(X.env.kindOf x=some .cell\/X.env.kindOf x=some .free)->∃c,X.env.cells.lookup x=some c
 cab:∀x c,X.fn x=true->X.env.cells.lookup x=some c->X.s₀⁻¹<=c
 hd:X.calm=true->X.A.handled=none
 frames:X.A.frames=some X.stack
 stk:X.stack=X.outer\/(X.stack=X.env::X.outer/\X.env.frame=some X.env.locals)
 exf:∀b∈X.ex,b≠X.env.locals/\∀x c,X.env.cells.lookup x=some c->c≠b
 bs:∀b o,X.base.get? b=some o->X.s₀.heap.get? b=some o/\X.H₀ b=none
 bsz:X.base.objs.size<=X.s₀⁻¹
 noex:∀b o,X.base.get? b=some o->b∉X.ex
 exfs:∀b∈X.ex,b∉X.fs
 funs:X.s₀.heap.FunFrames X.base X.outer
 frf:∀b∈X.fs,X.H₀ b=none
structure Inv(X:Cx)(pins:PLO)(σ:List (Option V))(H:Hp)(s:Ui):Prop where
 ok:X.Ok
 os:s.os=X.s₀.os
 bare:AllBare s.gens
 base:Un X.fs X.ex X.H₀ H X.s₀.heap s.heap
 loc:∃m,s.heap.Ns X.env.locals m/\∀(i:Nat) (x:Str) (v:V),X.N[i]?=some x->σ[i]?=some (some v)->Vis X.env.scope x->∃u,RelV v u/\Look X.env s.heap m x u
 cell:∀x c,X.env.cells.lookup x=some c->∃v,s.heap.IsCell c v
 free:H X.env.locals=none
 freeC:∀x c,X.env.cells.lookup x=some c->H c=none
 pin:∀p∈X.pn++pins,s.heap.get? p.1=some p.2/\H p.1=none/\p.1≠X.env.locals/\p.1∉X.fs/\∀v,p.2.data≠ .cell v
 hok:HOk X.prog X.w H s.heap
 len:σ.length=X.N.length
section
variable{X:Cx}{pins:PLO}{σ:List (Option V)}{H H':Hp}{s:Ui}{h':Um}
def Cx.Ok.nofr(a:X.Ok){b:Uj}{o:Obj}(e:X.base.get? b=some o):b∉X.fs:=λc=>by have:=(a.funs.mem c).1;rw[e] at this;cases this
def Inv.bs(I:'v'):∀b o,X.base.get? b=some o->s.heap.get? b=some o/\H b=none:=λb o e=>
 (I.base.keep b o (I.ok.bs b o e).1 (I.ok.bs b o e).2 (I.ok.nofr e) (I.ok.noex b o e),I.base.free b o (I.ok.bs b o e).1 (I.ok.bs b o e).2 (I.ok.noex b o e))
def Inv.bk(I:'v'):∀b o,X.base.get? b=some o->s.heap.get? b=some o:=λb o e=>(I.bs b o e).1
def Inv.mod(I:'v'):Mod X.K X.mg X.base:=I.ok.mod
def Inv.kIn(I:'v'):X.K.In s.heap:=I.ok.mod.kin.keeps I.bk
def Inv.nolimit(I:'v'):s.heap.NoLimit:=I.ok.mod.nolimit.keeps I.bk
def Inv.lt(I:'v'):X.env.locals<s⁻¹:=by let(_,a,_):=I.loc;show a.lt
def Inv.sz(I:'v'):X.s₀⁻¹<=s⁻¹:=ni I.ok.above (mf I.lt)
def Inv.nofs(I:'v'){a:Uj}(h:s⁻¹<=a):a∉X.fs:=λc=>by let(_,o,b,_):=I.ok.funs.mem c;show absurd (nh (Dd b) (ni I.sz h)) (nv _)
def Inv.cne(I:'v'):∀x c,X.env.cells.lookup x=some c->c≠X.env.locals:=λx c e z=>by let(v,o,d,f):=I.cell x c e;let(m,(g,h,i,a,b,_),_):=I.loc;rw[z,a] at d;cases d;rw[b] at f;cases f
def Inv.funs(I:'v'):s.heap.FunFrames X.base X.outer:=by
 have f:∀(l:List Env),(∀b∈frs l,b∈X.fs)->X.s₀.heap.FunFrames X.base l->s.heap.FunFrames X.base l:=by
  intro l;induction l with
  | nil=>intro _ _;trivial
  | cons q r h=>intro g m;let(n,(L,o,a,k,j,p),i):=m;have d:L∈X.fs:=g L (by ext frs;rw[Mg,a];show Aw);let(t,e):=I.base.slot L o j (I.ok.frf L d) d λz=>I.ok.exfs L z d;show(n,(L,_,a,k,e,p),h (λb c=>g b (by ext frs;rw[Mg,a];show An _ c)) i)
 show f X.outer (λ_ c=>c) I.ok.funs
def Inv.stack(I:'v'):s.heap.FunFrames X.base X.stack:=by
 rcases I.ok.stk with e|⟨e,hf⟩
 .rw[e];show I.funs
 .rw[e];let(m,a,_):=I.loc;show .cons (by rw[I.ok.kind];decide) hf a ?_ I.funs;show Heap.get?_none_of_le (ni I.ok.bsz I.ok.above)
def Inv.stkSub(I:'v'):∀b∈frs X.stack,b∈X.env.locals::X.fs:=λb a=>by
 rcases I.ok.stk with e|⟨e,hf⟩
 .rw[e] at a;show An _ a
 .rw[e] at a;ext a frs;rw[Mg,hf] at a;show a
def Inv.stkFree(I:'v'):∀b∈frs X.stack,H b=none:=λb a=>by
 rcases Ak.mp (I.stkSub b a) with e|a
 .rw[e];show I.free
 .let(_,o,c,_):=I.ok.funs.mem a;show I.base.free b o c (I.ok.frf b a) λz=>I.ok.exfs b z a
def Inv.step{g':Array GenState}{t':Nat}{d':Drawn}{ch:List Uj}(I:'v')
  (j:∀b∈ch,(b∈X.ex\/X.s₀⁻¹<=b)/\b≠X.env.locals/\(∀x c,X.env.cells.lookup x=some c->c≠b)/\∀p∈X.pn++pins,p.1≠b)
  (h:∀b o,b≠X.env.locals->b∉X.fs->b∉ch->s.heap.get? b=some o->H b=none->h'.get? b=some o)
  (C:∀b o,b≠X.env.locals->b∈X.fs->b∉ch->s.heap.get? b=some o->H b=none->∃R,h'.get? b=some {o with slots:=R}) (f:∀b o,b∉ch->s.heap.get? b=some o->H b=none->H' b=none)
  (D:∀b o,b∉ch->s.heap.get? b=some o->∃K,h'.get? b=some K)
  (G:∀b B,H b=some (.tup B)->H' b=some (.tup B)) (N:∀b o u,H b=some (.frz o u)->H' b=some (.frz o u)) (J:∀b P,H b=some (.tbl P)->∃M,H' b=some (.tbl (P++M)))
  (Z:∀m,s.heap.Ns X.env.locals m->h'.Ns X.env.locals m) (S:HOk X.prog X.w H' h') (hg:AllBare g'):
  Inv X pins σ H' {s with heap:=h',gens:=g',drawn:=d',toks:=t'}:=by
 have L:∀b o,X.s₀.heap.get? b=some o->b≠X.env.locals:=λb o e=>nj (nh (Dd e) I.ok.above);have y:∀b o,X.s₀.heap.get? b=some o->b∉X.ex->b∉ch:=λb o e a E=>by
  rcases(j b E).1 with z|z
  .show a z
  .show absurd (nh (Dd e) z) (nv _)
 have t:∀x c,X.env.cells.lookup x=some c->∀v,s.heap.IsCell c v->h'.IsCell c v:=λx c e v zy1=>by
  let(o,F,T):=zy1;have g:c∉ch:=λz=>(j c z).2.2.1 x c e rfl;by_cases Y:c∈X.fs
  .let(R,q):=C c o (I.cne x c e) Y g F (I.freeC x c e);show(_,q,T)
  .exact(o,h c o (I.cne x c e) Y g F (I.freeC x c e),T)
 show(I.ok,I.os,hg,(λb o e n E a=>?_,λb o e n E a=>?_,λb o e n a=>?_,λb o e a=>?_,λb B e=>G b B (I.base.tups b B e),λb o B e=>N b o B (I.base.frzs b o B e),λb P e=>?_),?_,λx c e=>?_,?_,λx c e=>?_,λp W=>?_,S,I.len)
 .show h b o (L b o e) E (y b o e a) (I.base.keep b o e n E a) (I.base.free b o e n a)
 .let(R,A):=I.base.slot b o e n E a;let(Q,O):=C b _ (L b o e) E (y b o e a) A (I.base.free b o e n a);show(Q,O)
 .let(K,A):=I.base.there b o e a;show f b K (y b o e a) A (I.base.free b o e n a)
 .let(K,A):=I.base.there b o e a;show D b K (y b o e a) A
 .let(m1,A):=I.base.tbls b P e;let(m2,O):=J b _ A;show(m1++m2,by rw[O,Array.append_assoc])
 .let(m,hn,hl):=I.loc;show(m,Z m hn,λi x v A O e3=>?_);let(u,r,l):=hl i x v A O e3;show(u,r,?_);rcases l with l|⟨k,c,e,z⟩
  .show .inl l
  .show .inr (k,c,e,t x c e _ z)
 .let(v,z):=I.cell x c e;show(v,t x c e v z)
 .let(m,(o,_,_,F,_),_):=I.loc;show f _ o (λz=>(j _ z).2.1 rfl) F I.free
 .let(v,o,F,T):=I.cell x c e;show f c o (λz=>(j c z).2.2.1 x c e rfl) F (I.freeC x c e)
 .let(e,n,V,U,d):=I.pin p W;have g:p.1∉ch:=λz=>(j p.1 z).2.2.2 p W rfl;show(h p.1 p.2 V U g e n,f p.1 p.2 g e n,V,U,d)
def Inv.un{t':Nat}(I:'v')(u:Un X.fs [] H H' s.heap h')(c:HOk X.prog X.w H' h'):Inv X pins σ H' {s with heap:=h',toks:=t'}:=by
 let(m,(o,t,v,h,r),_):=id I.loc;let(l,k):=u.any h I.free 's';show I.step (g':=s.gens) (d':=s.drawn) (ch:=[]) (λ_ z=>nomatch z) (λb o _ d _ e n=>u.keep b o e n d 's') (λb o _ d _ e n=>u.slot b o e n d 's') (λb o _ e n=>u.free b o e n 's') (λb o _ e=>u.there b o e 's') u.tups u.frzs u.tbls (λq j=>by
  let(p,f,g,a,i):=j;rw[h] at a;cases a;show(_,f,g,k,i)) c I.bare
def Inv.call{g':Array GenState}{t':Nat}{d':Drawn}{ch:List Uj}(I:'v')(u:Un (frs X.stack) ch H H' s.heap h')(g:HOk X.prog X.w H' h')(t:AllBare g')
  (f:∀b∈ch,(b∈X.ex\/X.s₀⁻¹<=b)/\b≠X.env.locals/\(∀x c,X.env.cells.lookup x=some c->c≠b)/\∀p∈X.pn++pins,p.1≠b):
  Inv X pins σ H' {s with heap:=h',gens:=g',drawn:=d',toks:=t'}:=by
 let(m,(o,C,D,k,r),_):=id I.loc;let(y,h):=u.any k I.free λz=>(f _ z).2.1 rfl;show I.step (ch:=ch) f (λb o h v a e n=>u.keep b o e n (λz=>(Ak.mp (I.stkSub b z)).elim h v) a) (λb o _ _ a e n=>u.any e n a) (λb o a e n=>u.free b o e n a) (λb o a e=>u.there b o e a) u.tups u.frzs u.tbls (λB q=>by
  let(A,i,j,d,l):=q;rw[k] at d;cases d;show(_,i,j,h,l)) g t
def Inv.turned{t':Nat}{it:Uj}(I:'v')(k:∀b o,b≠it->s.heap.get? b=some o->h'.get? b=some o)(h:H it=none)(f:it≠X.env.locals)
  (w:it∈X.ex\/X.s₀⁻¹<=it) (t:∀x c,X.env.cells.lookup x=some c->c≠it) (l:∀p∈X.pn++pins,p.1≠it):Inv X pins σ H {s with heap:=h',toks:=t'}:=by
 have d:∀b u,H b=some u->b≠it:=λb u e z=>by rw[z,h] at e;cases e
 show I.step (g':=s.gens) (d':=s.drawn) (ch:=[it]) (λb j=>?_) (λb o _ _ a e _=>k b o (λz=>a (by simp[z])) e) (λb o _ _ a e _=>(o.slots,k b o (λz=>a (by simp[z])) e)) (λ_ _ _ _ n=>n)
  (λb o a e=>(o,k b o (λz=>a (by simp[z])) e)) (λ_ _ e=>e) (λ_ _ _ e=>e) (λb B e=>(#[],by rw[e];simp)) (λm i=>?_) (λb u e=>?_) I.bare
 .have e:b=it:=by simpa using j
  subst e;show(w,f,t,l)
 .let(o,y,A,g,r):=i;show(o,y,A,k _ o (Il f) g,r)
 .refine(I.hok b u e).stay (λc v a q=>k c v ?_ q) (λ_ q=>q) λ_ _ q=>q;rcases a with z|z
  .rw[z];show d b u e
  .show d c _ z
def Inv.tok(I:'v')(t:Nat):Inv X pins σ H {s with toks:=t}:=I.un (h':=s.heap) (t':=t) Un.refl I.hok
def Inv.kept{t':Nat}(I:'v')(k:∀b u,s.heap.get? b=some u->h'.get? b=some u):Inv X pins σ H {s with heap:=h',toks:=t'}:=I.un (Un.kept k) (I.hok.kept k)
def Inv.laid{a:Uj}{o:HO}{t':Nat}(I:'v')(k:∀b u,s.heap.get? b=some u->h'.get? b=some u)(d:s⁻¹<=a)(c:Yb X.prog X.w (upd H a o) h' a o):
  Inv X pins σ (upd H a o) {s with heap:=h',toks:=t'}:=I.un (Un.laid k d (I.hok.fresh d)) (I.hok.laid k d c)
def Inv.write{x e:Uj}{o:HO}{t':Nat}(I:'v')(d:Mut (H x))(f:e=x\/H e=some (.own x))(k:∀b u,b≠e->s.heap.get? b=some u->h'.get? b=some u)(a:∃u,h'.get? e=some u)
  (c:Yb X.prog X.w (upd H x o) h' x o):Inv X pins σ (upd H x o) {s with heap:=h',toks:=t'}:=I.un (Un.write d f k a) (I.hok.write d f k a c)
def Inv.pins_of{a:PLO}(I:'v')(h:∀p∈a,s.heap.get? p.1=some p.2/\H p.1=none/\p.1≠X.env.locals/\p.1∉X.fs/\∀v,p.2.data≠ .cell v):Inv X a σ H s:=
 (I.ok,I.os,I.bare,I.base,I.loc,I.cell,I.free,I.freeC,λp b=>(Ap.mp b).elim (λz=>I.pin p (Ax _ z)) (h p),I.hok,I.len)
def Z10{N:LS}(c:N.Nodup){i j:Nat}{x:Str}(a:N[i]?=some x)(b:N[j]?=some x):i=j:=by let(g,e):=Ab.mp a;let(f,d):=Ab.mp b;show(List.getElem_inj c).mp (e.trans d.symm)
def G9{M:Model}{A:Around}{E:VSP}{i:Nat}{x:Str}{v:V}{u:Uh}{Q:Unit->Ui->Prop}(I:'v')(hN:X.N.Nodup)(hi:X.N[i]?=some x)(hx:Loc X.env.scope x)(r:RelV v u)
  (h:∀s',Inv X pins (σ.set i (some v)) H s'->(∃a,Lh a s.heap s'.heap/\(a=X.env.locals\/X.env.cells.lookup x=some a))->Q () s') (hf:X.fn x=true\/X.env.scope.names.lookup x=some .local:=by first | show .inl rfl | show .inr rfl | assumption):wpAny M A (storeName X.env x u) Q E s:=by
 let(m,hn,hl):=id I.loc;have hcls:(X.env.scope.kind== .class || (X.env.scope.kind== .module&&X.env.locals !=X.env.globals))=false:=by rw[I.ok.kind];rfl
 have hiσ:i<σ.length:=by rw[I.len];show(Ab.mp hi).1
 have cne:=I.cne;have tracked:∀{a:Uj} {h':Um},(∃o,s.heap.get? a=some o/\H a=none)->Lh a s.heap h'->HOk X.prog X.w H h':=fun{a h'} ha hs b ob e=>by
  let(_,_,hfree):=ha;show(I.hok b ob e).stay (λc w' hc q=>(hs.2 c ?_).trans q) (λ_ q=>q) λ_ _ q=>q;rintro rfl;rcases hc with rfl|hc
  .rw[hfree] at e;cases e
  .rw[hfree] at hc;cases hc
 rcases hx with hk|hk
 .refine wpAny_storeName_local hk hn (λh' hn' hs=>?_) hcls;let(oL,_,_,hoL,_):=id hn;show h _ (I.ok,I.os,I.bare,(λb o e n hb hx=>?_,λb o e n hb hx=>?_,I.base.free,λb o e hx=>?_,I.base.tups,I.base.frzs,I.base.tbls),(_,hn',λj y v' e1 e2 e3=>?_),λy c e=>?_,I.free,I.freeC,λp hp=>?_,tracked (oL,hoL,I.free) hs,↥I.len) (_,hs,.inl rfl)
  .exact(hs.2 b (nj (nh (Dd e) I.ok.above))).trans (I.base.keep b o e n hb hx)
  .let(sl,e1):=I.base.slot b o e n hb hx;show(sl,(hs.2 b (nj (nh (Dd e) I.ok.above))).trans e1)
  .let(o',e1):=I.base.there b o e hx;show(o',(hs.2 b (nj (nh (Dd e) I.ok.above))).trans e1)
  .by_cases hj:j=i
   .subst hj;rw[hi] at e1;cases e1;rw[Ds hiσ] at e2;cases e2;show(u,r,.inl (hk,by simp))
   .rw[Dk (Il hj)] at e2;let(u',r',q):=hl j y v' e1 e2 e3;show(u',r',?_);rcases q with⟨k,e⟩|⟨k,c,e,z⟩
    .refine .inl (k,?_);have:y≠x:=λe=>hj (Z10 hN e1 (e ▸ hi));simp[this,e]
    .show .inr (k,c,e,z.sameBut hs (cne y c e))
  .let(w',z):=I.cell y c e;show(w',z.sameBut hs (cne y c e))
  .let(e,n,ne,nf,d):=I.pin p hp;show((hs.2 p.1 ne).trans e,n,ne,nf,d)
 .have hfn:X.fn x=true:=by
   rcases hf with z|z
   .show z
   .rw[z] at hk;cases hk
  let(c,hc):=I.ok.has x (.inl hk);let(w',z):=I.cell x c hc;show wpAny_storeName_cell I.ok.kind hk hc z (λh' hc' hs=>?_);let(oc,hoc,hocd):=id z;show h {s with heap:=h'} (I.ok,I.os,I.bare,(λb o e n hb hx=>?_,λb o e n hb hx=>?_,I.base.free,λb o e hx=>?_,I.base.tups,I.base.frzs,I.base.tbls),(m,hn.sameBut hs (Il (cne x c hc)),λj y v' e1 e2 e3=>?_),λy c' e=>?_,I.free,I.freeC,λp hp=>?_,tracked (oc,hoc,I.freeC x c hc) hs,↥I.len) (c,hs,.inr hc)
  .exact(hs.2 b (nj (nh (Dd e) (I.ok.cab x c hfn hc)))).trans (I.base.keep b o e n hb hx)
  .let(sl,e1):=I.base.slot b o e n hb hx;show(sl,(hs.2 b (nj (nh (Dd e) (I.ok.cab x c hfn hc)))).trans e1)
  .let(o',e1):=I.base.there b o e hx;show(o',(hs.2 b (nj (nh (Dd e) (I.ok.cab x c hfn hc)))).trans e1)
  .by_cases hj:j=i
   .subst hj;rw[hi] at e1;cases e1;rw[Ds hiσ] at e2;cases e2;show(u,r,.inr (.inl hk,c,hc,hc'))
   .rw[Dk (Il hj)] at e2;let(u',r',q):=hl j y v' e1 e2 e3;show(u',r',?_);rcases q with q|⟨k,c',e,z'⟩
    .show .inl q
    .refine .inr (k,c',e,z'.sameBut hs ?_);rintro rfl;show hj (Z10 hN e1 (I.ok.inj _ _ _ e hc ▸ hi))
  .by_cases hcc:c'=c
   .subst hcc;show(_,hc')
   .let(w2,z2):=I.cell y c' e;show(w2,z2.sameBut hs hcc)
  .let(e,n,ne,nf,d):=I.pin p hp;show((hs.2 p.1 ?_).trans e,n,ne,nf,d);intro q;rw[q,hoc] at e;have q':oc=p.2:=Hb e;show d w' (by rw[<-q'];show hocd)
def Z48{M:Model}{A:Around}{E:VSP}{i:Nat}{x:Str}{v:V}{u:Uh}{Q:Unit->Ui->Prop}(I:'v')(c:X.N.Nodup)(hi:X.N[i]?=some x)(a:Loc X.env.scope x)(r:RelV v u)
  (h:∀s',Inv X pins (σ.set i (some v)) H s'->Q () s') (b:X.fn x=true\/X.env.scope.names.lookup x=some .local:=by first | show .inl rfl | show .inr rfl | assumption):wpAny M A (storeName X.env x u) Q E s:=
 G9 I c hi a r (λs' d _=>h s' d) b
def Inv.call'{s':Ui}{ch:List Uj}(I:'v')(h:s'.os=s.os)(u:Un (frs X.stack) ch H H' s.heap s'.heap)(a:HOk X.prog X.w H' s'.heap)(i:AllBare s'.gens)
  (d:∀b∈ch,(b∈X.ex\/X.s₀⁻¹<=b)/\b≠X.env.locals/\(∀x c,X.env.cells.lookup x=some c->c≠b)/\∀p∈X.pn++pins,p.1≠b):Inv X pins σ H' s':=by
 let(h',j,k,f,g):=s';have e:g=s.os:=h;subst e;show I.call (g':=j) (t':=f) (d':=k) u a i d
end
abbrev XK:=Uh->Option Uj->Hp->Prop
abbrev St:=List (Option V)
abbrev VK:=V->Hp->Prop
abbrev TE:=St->Hp->VK->Prop
abbrev TT:=St->Hp->(Bool->Hp->Prop)->Prop
abbrev TA:=St->Hp->(LV->Hp->Prop)->Prop
structure Ends where
 nx:St->Hp->Prop
 rt:VK
 bk:St->Hp->Prop:=λ_ _=>False
 ct:St->Hp->Prop:=λ_ _=>False
abbrev TS:=Ends->St->Hp->Prop
def EP(X:Cx)(pins:PLO)(b:St)(Q:VK)(u:Uh)(s':Ui):Prop:=∃v a,Inv X pins b a s'/\RelV v u/\Q v a
def TP(X:Cx)(pins:PLO)(c:St)(Q:Bool->Hp->Prop)(b:Bool)(s':Ui):Prop:=∃a,Inv X pins c a s'/\Q b a
def AP(X:Cx)(pins:PLO)(c:St)(Q:LV->Hp->Prop)(us:LW)(s':Ui):Prop:=∃a b,Inv X pins c b s'/\Vals a us/\Q a b
def SP(X:Cx)(pins:PLO)(D:Ends)(f:Flow)(s':Ui):Prop:=
 match f with
 | .next=>∃a b,Inv X pins a b s'/\D.nx a b
 | .brk=>∃a b,Inv X pins a b s'/\D.bk a b
 | .cont=>∃a b,Inv X pins a b s'/\D.ct a b
 | .ret u=>∃v a b,Inv X pins a b s'/\RelV v u/\D.rt v b
def PE(X:Cx)(e:Expr)(t:TE):Prop:=
 ∀(a:PLO) (s:Ui) (b:St) (H:Hp) (Q:VK),Inv X a b H s->t b H Q->⇑X (eval e X.env) (EP X a b Q) X.xe s
def PT(X:Cx)(e:Expr)(t:TT):Prop:=
 ∀(a:PLO) (s:Ui) (b:St) (H:Hp) (Q:Bool->Hp->Prop),Inv X a b H s->t b H Q->⇑X (isTrue e X.env (eval e X.env)) (TP X a b Q) X.xe s
def PW(X:Cx)(e:Expr)(t:TT):Prop:=
 ∀(b:Sem Uh) (a:PLO) (s:Ui) (c:St) (H:Hp) (Q:Bool->Hp->Prop),Inv X a c H s->t c H Q->⇑X (isTrue e X.env b) (TP X a c Q) X.xe s
def PW.pt{X:Cx}{e:Expr}{t:TT}(h:PW X e t):PT X e t:=h _
def PA(X:Cx)(es:List Expr)(t:TA):Prop:=
 ∀(c:Pos) (a:PLO) (s:Ui) (b:St) (H:Hp) (Q:LV->Hp->Prop),Inv X a b H s->t b H Q->⇑X (spliced (backTo c (starEach es X.env))) (AP X a b Q) X.xe s
def PS(X:Cx)(st:Stmt)(t:TS):Prop:=
 ∀(a:PLO) (s:Ui) (b:St) (H:Hp) (D:Ends),Inv X a b H s->t D b H->⇑X (exec st X.env) (SP X a D) X.xe s
def PSs(X:Cx)(st:List Stmt)(t:TS):Prop:=
 ∀(a:PLO) (s:Ui) (b:St) (H:Hp) (D:Ends),Inv X a b H s->t D b H->⇑X (execs st X.env) (SP X a D) X.xe s
def thn{b:Type}{t:Sem b}{Q c:b->Ui->Prop}{M:Model}{A:Around}{E:VSP}{s:Ui}(h:wpAny M A t Q E s)(d:∀a s,Q a s->c a s):wpAny M A t c E s:=Hl h d λ_ _ x=>x
section
variable{X:Cx}
def bin{a b:Expr}{l k:TE}(z:PE X a l)(t:PE X b k){pins:PLO}{s:Ui}{c:St}{H:Hp}{R:V->V->Hp->Prop}(I:Inv X pins c H s)(h:l c H λx i=>k c i λy H2=>R x y H2)
  {j:Type} {Q:j->Ui->Prop} {f:Uh->Uh->Sem j}
  (r:∀v u g x y H2,Inv X pins c H2 g->RelV x v->RelV y u->R x y H2->⇑X (f v u) Q X.xe g):
  ⇑X (eval a X.env) (λv e=>⇑X (eval b X.env) (λu d=>⇑X (f v u) Q X.xe d) X.xe e) X.xe s:=by
 show thn (z pins s c H _ I h) λv m zz=>?_;let(x,i,C,o,q):=zz;show thn (t pins m c i _ C q) λu g zz=>?_;let(y,H2,B,n,p):=zz;show r v u g x y H2 B o n p
def tVar(i:Nat):TE:=λa H Q=>∃v,a[i]?=some (some v)/\Q v H
def tC(v:V):TE:=λ_ H Q=>Q v H
def Bz{i:Nat}{x:Str}{pos:Pos}(w:X.N[i]?=some x)(o:Vis X.env.scope x)(g:(x==("__debug__":Str))=false:=by decide)(j:(x==("__classdict__":Str))=false:=by decide):PE X (.Name x pos) (tVar i):=by
 intro f s n H Q I h;let(v,e,h):=h;let(m,p,t):=I.loc;let(u,r,l):=t i x v w e o;have d:EP X f n Q u s:=(v,H,I,r,h);rcases l with⟨b,q⟩|⟨b,c,k,a⟩
 .show Uf (wpAny_loadName_local I.ok.kind b p q d) g
 .rcases b with b|b
  .show Uf (wpAny_loadName_cell I.ok.kind b k a d) g
  .show Uf (wpAny_loadName_free I.ok.kind b k a d j) g
def Y41{i j pos}:PE X (.Constant (.int i) j pos) (tC (.int i)):=λ_ _ _ H _ I h=>wpAny_Constant_int (.int i,H,I.tok _,(_,rfl),h)
def Yu4{b j pos}:PE X (.Constant (.bool b) j pos) (tC (.bl b)):=λ_ _ _ H _ I h=>Constant_bool (.bl b,H,I,rfl,h)
def Yk3{j pos}:PE X (.Constant .none j pos) (tC .non):=λ_ _ _ H _ I h=>Constant_none (.non,H,I,rfl,h)
def Yo6{x j pos}:PE X (.Constant (.str x) j pos) (tC (.str x)):=λ_ _ _ H _ I h=>Calls.Constant_str (.str x,H,I.tok _,(_,rfl),h)
def Gl(X:Cx)(x:Str):Prop:=X.env.kindOf x=some .globalImplicit
def Wh{E:VSP}{pins:PLO}{s:Ui}{a:St}{H:Hp}{x:Str}{u:Uh}{pos:Pos}{Q:VSP}(I:Inv X pins a H s)(c:Gl X x)(b:X.mg x=some u)(h:Q u s)
  (d:(x==("__debug__":Str))=false:=by decide):⇑X (eval (.Name x pos) X.env) Q E s:=
 Lu I.ok.kind c (Calls.loadGlobal_global (by rw[I.ok.glob];show I.mod.glob.keeps I.bk) b h) d
def Ol{E:VSP}{pins:PLO}{s:Ui}{a:St}{H:Hp}{x:Str}{u:Uh}{pos:Pos}{Q:VSP}(I:Inv X pins a H s)(e:Gl X x)(d:X.mg x=none)(b:bootBuiltins x=some u)(h:Q u s)
  (c:x≠"__name__":=by decide) (f:(x==("__debug__":Str))=false:=by decide):⇑X (eval (.Name x pos) X.env) Q E s:=by
 let(j,i,g):=I.mod.blt;show Lu I.ok.kind e (Calls.loadGlobal_builtin (by rw[I.ok.glob];show I.mod.glob.keeps I.bk) d (by rw[I.ok.blt];show i.keeps I.bk) ((g x c).trans b) h) f
def Yd2{x:Str}{v:V}{u:Uh}{pos:Pos}(b:Gl X x)(a:X.mg x=some u)(r:RelV v u)(c:(x==("__debug__":Str))=false:=by decide):PE X (.Name x pos) (tC v):=
 λ_ _ _ H _ I h=>Wh I b a (v,H,I,r,h) c
def Yd0{x:Str}{v:V}{u:Uh}{pos:Pos}(d:Gl X x)(c:X.mg x=none)(a:bootBuiltins x=some u)(r:RelV v u)(b:x≠"__name__":=by decide)(e:(x==("__debug__":Str))=false:=by decide):PE X (.Name x pos) (tC v):=
 λ_ _ _ H _ I h=>Ol I d c a (v,H,I,r,h) b e
variable{a b:Expr}{ta tb:TE}{pos:Pos}
variable{tA tB':TT}{rest:List Expr}
def tAnd(t u:TT):TT:=λd H Q=>t d H λc e=>if c=true then u d e Q else Q false e
def tOr(t u:TT):TT:=λd H Q=>t d H λc e=>if c=true then Q true e else u d e Q
def tNot(t:TT):TT:=λd H Q=>t d H λc e=>Q (!c) e
def Y86(g:PT X a tA):PW X (.BoolOp .And [a] pos) tA:=by
 intro i d s f H Q I h;show isTrue_and (thn (g d s f H Q I h) λc j e=>?_);cases c with
 | true=>show isTrue_and_nil e
 | false=>show e
def Yl9(g:PT X a tA):PW X (.BoolOp .Or [a] pos) tA:=by
 intro i d s f H Q I h;show isTrue_or (thn (g d s f H Q I h) λc j e=>?_);cases c with
 | false=>show isTrue_or_nil e
 | true=>show e
def Yi2(m:PT X a tA)(l:PW X (.BoolOp .And (b::rest) pos) tB'):PW X (.BoolOp .And (a::b::rest) pos) (tAnd tA tB'):=by
 intro j d s e H Q I h;show isTrue_and (thn (m d s e H _ I h) λc k zz=>?_);let(i,g,f):=zz;cases c with
 | true=>show l j d k e i Q g f
 | false=>show(i,g,f)
def Yt1(m:PT X a tA)(l:PW X (.BoolOp .Or (b::rest) pos) tB'):PW X (.BoolOp .Or (a::b::rest) pos) (tOr tA tB'):=by
 intro j d s e H Q I h;show isTrue_or (thn (m d s e H _ I h) λc k zz=>?_);let(i,g,f):=zz;cases c with
 | true=>show(i,g,f)
 | false=>show l j d k e i Q g f
def Yj2(f:PT X a tA):PT X (.UnaryOp .Not a pos) (tNot tA):=by intro d s e H Q I h;show isTrue_not (f d s e H (λc g=>Q (!c) g) I h)
def Yj7{op}{t:TE}(h:PE X a t):PE X (.BoolOp op [a] pos) t:=λc s d H Q I e=>BoolOp_one (h c s d H Q I e)
end
def SqL(K:Ae)(H:Hp)(a:Uj)(xs:LV):Prop:=
 Rd H a (.lst xs)\/
  ∃(o:Obj) (b:Array Uh) (n:Nat),K.lookup a=some o/\o.cls= .type "list"/\o.dict=none/\o.data= .seq b n/\b.size<=sizeLine/\Vals xs b.toList
def SqT(K:Ae)(H:Hp)(a:Uj)(xs:LV):Prop:=
 Rd H a (.tup xs)\/
  ∃(o:Obj) (b:Array Uh) (n:Nat),K.lookup a=some o/\o.cls= .type "tuple"/\o.data= .seq b n/\b.size<=sizeLine/\Vals xs b.toList
def absV:Uh->Option V
 | .none=>some .non
 | .bool b=>some (.bl b)
 | .int i _=>some (.int i)
 | .str x _=>some (.str x)
 | .bytes b _=>some (.byt b)
 | .float b _=>some (.flt b)
 | .ref a=>↑a
 | .type n=>some (.ty n)
 | _=>none
def RelV.abs{x:V}{u:Uh}(r:RelV x u):absV u=some x:=by
 cases x with
 | non=>cases r;rfl
 | bl _=>cases r;rfl
 | int _=>let(t,rfl):=r;rfl
 | str _=>let(t,rfl):=r;rfl
 | byt _=>let(t,rfl):=r;rfl
 | flt _=>let(t,rfl):=r;rfl
 | ref _=>cases r;rfl
 | ty _=>cases r;rfl
def RelV.inj{x y:V}{u:Uh}(r:RelV x u)(q:RelV y u):x=y:=Hb (r.abs.symm.trans q.abs)
def Vals.inj:∀{xs ys:LV} {us:LW},Vals xs us->Vals ys us->xs=ys:=by
 intro xs ys us h;induction h generalizing ys with
 | nil=>intro g;cases g;rfl
 | cons r t ih=>
  intro g;cases g with
  | cons b a=>rw[r.inj b,ih a]
section
variable{X:Cx}{pins:PLO}{σ:St}{H:Hp}{s:Ui}{a:Uj}{xs ys:LV}
def SqT.of{K:Ae}(h:H a=some (.tup xs)):SqT K H a xs:= .inl (.inl h)
def Inv.list(I:'v')(h:SqL X.K H a xs):∃its:LW,Vals xs its/\PlainL s.heap a its.toArray/\xs.length<=sizeLine:=by
 rcases h with h|⟨o,its,n,hk,hc,hd,hs,hz,r⟩
 .let(z,its,n,r,e):=h.ok I.hok;show(its,r,(_,n,e,rfl,rfl,rfl),z)
 .refine(its.toList,r,(o,n,I.kIn a o hk,hc,hd,↥hs),?_);have e:=r.length;erw[Ir] at e;lia
def Inv.tuple(I:'v')(h:SqT X.K H a xs):∃its:LW,Vals xs its/\IsTup s.heap a its.toArray/\xs.length<=sizeLine:=by
 rcases h with h|⟨o,its,n,hk,hc,hs,hz,r⟩
 .let(z,its,r,p):=h.ok I.hok;show(its,r,p,z)
 .refine(its.toList,r,(o,I.kIn a o hk,hc,n,↥hs),?_);have e:=r.length;erw[Ir] at e;lia
def Inv.list_inj(I:'v')(h:SqL X.K H a xs)(h':SqL X.K H a ys):xs=ys:=by
 let(c,r,(o,n,e,_,_,d),_):=I.list h;let(b,i,(j,k,f,_,_,g),_):=I.list h';rw[e] at f;cases f;rw[d] at g;injection g with d1 _;have:c=b:=by simpa using congrArg Array.toList d1
 subst this;show r.inj i
def Inv.tuple_inj(I:'v')(h:SqT X.K H a xs)(h':SqT X.K H a ys):xs=ys:=by
 let(c,r,(o,e,_,n,d),_):=I.tuple h;let(b,i,(j,f,_,k,g),_):=I.tuple h';rw[e] at f;cases f;rw[d] at g;injection g with d1 _;have:c=b:=by simpa using congrArg Array.toList d1
 subst this;show r.inj i
end
abbrev Cx.wish(X:Cx)(E:VSP):Cx:={X with xe:=E}
abbrev Cx.nox(X:Cx):Cx:=X.wish λ_ _=>False
def Cx.Ok.wish{X:Cx}(a:X.Ok)(E:VSP):(X.wish E).Ok:=
 (a.mod,a.kind,a.glob,a.blt,a.above,a.inj,a.has,a.cab,a.hd,a.frames,a.stk,a.exf,a.bs,a.bsz,a.noex,a.exfs,a.funs,a.frf)
def Cx.Ok.unwish{X:Cx}{E:VSP}(a:(X.wish E).Ok):X.Ok:=
 (a.mod,a.kind,a.glob,a.blt,a.above,a.inj,a.has,a.cab,a.hd,a.frames,a.stk,a.exf,a.bs,a.bsz,a.noex,a.exfs,a.funs,a.frf)
section
variable{X:Cx}{pins:PLO}{σ:St}{H:Hp}{s:Ui}{E:VSP}
def Inv.wish(I:'v')(E:VSP):Inv (X.wish E) pins σ H s:=(I.ok.wish E,I.os,I.bare,I.base,I.loc,I.cell,I.free,I.freeC,I.pin,I.hok,I.len)
def Inv.unwish(I:Inv (X.wish E) pins σ H s):'v':=(I.ok.unwish,I.os,I.bare,I.base,I.loc,I.cell,I.free,I.freeC,I.pin,I.hok,I.len)
def SP.unwish{D:Ends}{f:Flow}{s':Ui}(h:SP (X.wish E) pins D f s'):SP X pins D f s':=by
 cases f with
 | next=>let(a,b,I,q):=h;show(a,b,I.unwish,q)
 | brk=>let(a,b,I,q):=h;show(a,b,I.unwish,q)
 | cont=>let(a,b,I,q):=h;show(a,b,I.unwish,q)
 | ret u=>let(v,a,b,I,r,q):=h;show(v,a,b,I.unwish,r,q)
def PSs.nox{st:List Stmt}{t:TS}(h:PSs X.nox st t):PSs X st t:=λpins s σ H D I a=>
 Hl (h pins s σ H D (I.wish _) a) (λ_ _ q=>q.unwish) λ_ _ z=>Dq z
end
section
variable{X:Cx}{st:Stmt}{rest:List Stmt}{t u:TS}{e:Expr}{te:TE}{pos:Pos}
def Yv0:TS:=λD a H=>D.nx a H
def tSeq(t u:TS):TS:=λD a H=>t {D with nx:=u D} a H
def Zd7:PSs X [] Yv0:=λ_ _ a H _ I h=>Lr (a,H,I,h)
def Z20(i:PS X st t)(g:PSs X rest u):PSs X (st::rest) (tSeq t u):=by
 intro a s c H D I h;show Mz (thn (i a s c H {D with nx:=u D} I h) λf d q=>?_);cases f with
 | next=>let(b,k,j,q):=q;show g a d b k D j q
 | ret v=>show q
 | brk=>show q
 | cont=>show q
def Ye1(c:PS X st t):PSs X [st] t:=by
 intro a s b H D I h;show Mz (thn (c a s b H D I h) λf d q=>?_);cases f with
 | next=>show Lr q
 | ret v=>show q
 | brk=>show q
 | cont=>show q
def Yr2:TS:=λD a H=>D.ct a H
def C4:PS X (.Continue pos) Yr2:=λ_ _ a H _ I h=>wpAny_Continue (a,H,I,h)
def Inv.quiet{pins:PLO}{a:St}{H:Hp}{s:Ui}(I:Inv X pins a H s):interactive X.env=false:=by simp[interactive,I.ok.kind]
def Yv2(te:TE):TS:=λD a H=>te a H λ_ b=>D.nx a b
def Yc1(f:PE X e te)(d:swapsWith e none pos.line X.env=pure false:=by rfl):PS X (.Expr e pos) (Yv2 te):=by intro a s b H D I h;show wpAny_Expr_any (thn (f a s b H _ I h) λv j zz=>by let(x,i,g,k,c):=zz;show(b,i,g,c)) I.quiet d
def tRet(te:TE):TS:=λD a H=>te a H D.rt
def Y19(f:PE X e te):PS X (.Return (some e) pos) (tRet te):=by intro a s b H D I h;show wpAny_Return_some (thn (f a s b H _ I h) λv j zz=>by let(x,i,g,c,d):=zz;show(x,b,i,g,c,d))
def tIfS(c:TT)(t u:TS):TS:=λD a H=>c a H λb d=>if b=true then t D a d else u D a d
def Yu6{c:Expr}{a b:List Stmt}{i:TT}(n:PT X c i)(p:PSs X a t)(o:PSs X b u):PS X (.If c a b pos) (tIfS i t u):=by
 intro f s g H D I h;show wpAny_If (thn (n f s g H _ I h) λd j zz=>?_);let(m,l,k):=zz;cases d with
 | true=>show p f j g m D l k
 | false=>show o f j g m D l k
def Yn5:TS:=λ_ _ _=>False
def Bm:PS X st Yn5:=λ_ _ _ _ _ _ h=>h.elim
end
abbrev TG:=V->St->Hp->(St->Hp->Prop)->Prop
abbrev TGs:=LV->St->Hp->(St->Hp->Prop)->Prop
def PG(X:Cx)(target:Expr)(t:TG):Prop:=
 ∀(a:PLO) (s:Ui) (c:St) (H:Hp) (v:V) (u:Uh) (Q:St->Hp->Prop),Inv X a c H s->RelV v u->t v c H Q->
  ⇑X (assign target X.env u) (λ_ e=>∃b d,Inv X a b d e/\Q b d) X.xe s
def PGs(X:Cx)(g:List Expr)(t:TGs):Prop:=
 ∀(a:PLO) (s:Ui) (c:St) (H:Hp) (d:LV) (e:LW) (Q:St->Hp->Prop),Inv X a c H s->Vals d e->t d c H Q->
  ⇑X (assignInOrder ((assignEach g X.env).map (·.2)) e) (λ_ h=>∃b f,Inv X a b f h/\Q b f) X.xe s
abbrev TSet:=V->V->V->Hp->(Hp->Prop)->Prop
def PSet(X:Cx)(t:TSet):Prop:=
 ∀(a:PLO) (s:Ui) (b:St) (H:Hp) (o i v:V) (c d u:Uh) (Q:Hp->Prop),Inv X a b H s->RelV o c->RelV i d->RelV v u->t o i v H Q->
  ⇑X (setItem c d u) (λ_ f=>∃e,Inv X a b e f/\Q e) X.xe s
section
variable{X:Cx}{pos:Pos}
def Zo0(i:Nat):TG:=λv a H Q=>Q (a.set i (some v)) H
def Zi3{i:Nat}{x:Str}(d:X.N.Nodup)(hi:X.N[i]?=some x)(b:Loc X.env.scope x)(c:X.fn x=true\/X.env.scope.names.lookup x=some .local:=by first | show .inl rfl | show .inr rfl | assumption):PG X (.Name x pos) (Zo0 i):=by intro a s f H v u Q I r h;show wpAny_assign_Name (Z48 I d hi b r (λg e=>(_,H,e,h)) c)
def gNil:TGs:=λb a H Q=>b=[]/\Q a H
def Yp8(t:TG)(u:TGs):TGs:=λc b H Q=>∃v r,c=v::r/\t v b H λa d=>u r a d Q
def Y77:PGs X [] gNil:=by intro a s b H c d Q I r h;let(e,h):=h;subst e;cases r;show assignInOrder_nil (b,H,I,h)
def Zu9{e:Expr}{es:List Expr}{t:TG}{u:TGs}(k:PG X e t)(j:PGs X es u)
  (i:(assignEach (e::es) X.env).map (·.2)=assign e X.env::(assignEach es X.env).map (·.2):=by rfl):PGs X (e::es) (Yp8 t u):=by
 intro a s c H o q Q I r h;let(v,p,l,h):=h;subst l;cases r with
 | cons r f=>rw[i];show assignInOrder_cons (thn (k a s c H _ _ _ I r h) λ_ d zz=>?_);let(b,n,m,g):=zz;show j a d b n _ _ Q m f g
def gTup(K:Ae)(n:Nat)(t:TGs):TG:=λv c H Q=>∃a b,v= .ref a/\SqT K H a b/\b.length=n/\t b c H Q
def Yh1{es:List Expr}{k:Nat}{t:TGs}{n:Nat}(y:X.calm=true)(h:PGs X es t)
  (w:(assignEach es X.env).length=n:=by rfl) (f:(assignEach es X.env).findIdx? (·.1)=none:=by rfl):PG X (.Tuple es k pos) (gTup X.K n t):=by
 intro c s g H v u Q I r d;let(a,j,A,q,x,d):=d;subst A;cases r;let(l,i,p,C):=I.tuple q;show assign_Tuple_tuple (I.ok.hd y) p (by simp[w,<-x,i.length]) f λz m=>?_;have B:Inv X c g H {s with heap:=z}:=I.kept (t':=s.toks) λb o e=>m b o (nj (Dd e)) e;show h c _ g H j _ Q B ↥i d
def tAsg(b:TE)(g:TG):TS:=λD a H=>b a H λx c=>g x a c D.nx
def Y38{b e:Expr}{d:TE}{g:TG}(n:PE X e d)(m:PG X b g)(l:swapsWithSole [b] e pos.line X.env=pure false:=by rfl)(k:swappedStores [b] e X.env=pure none:=by rfl)
  (o:(assignEach [b] X.env).map (·.2)=[assign b X.env]:=by rfl):PS X (.Assign [b] e pos) (tAsg d g):=by
 intro a s c H D I h;show wpAny_Assign_stores (thn (n a s c H _ I h) λv f zz=>?_) l k;let(x,r,p,i,j):=zz;rw[o];show thn (m a f c r x v _ p i j) λ_ t q=>q
def Yq2(c:TT)(h:TS):TS:=λD a H=>∃W:Nat->St->Hp->Prop,(∃m,W m a H)/\∀m a H,W m a H->
 c a H λb f=>if b=true then ∃N:St->Hp->Prop,(∀d g,N d g->∃e,e<m/\W e d g)/\h {D with nx:=N,ct:=N,bk:=D.nx} a f else D.nx a f
def Zv8{c:Expr}{body:List Stmt}{t:TT}{u:TS}(x:PassesOwn (model X.prog X.w) X.A X.env X.xe)(P:PT X c t)(Q:PSs X body u):PS X (.While c body [] pos) (Yq2 t u):=by
 intro d s F H D I h;let(W,(O,J),i):=h;show wpAny_While (codeAny_whileLoop (λn M=>∃g E,Inv X d g E M/\W n g E) ?_ O (F,H,I,J));rintro n L ⟨e,C,R,G⟩;show Ls x (thn (P d L e C _ R (i n e C G)) λb K zz=>?_);let(B,z,l):=zz;cases b with
 | true=>
  let(N,y,l):=l;rw[ng rfl];show Ls x (thn (Q d K e B _ z l) λf S k=>?_);cases f with
  | next=>let(a,j,r,o):=k;let(p,q,m):=y a j o;show(p,q,a,j,r,m)
  | cont=>let(a,j,r,o):=k;let(p,q,m):=y a j o;show(p,q,a,j,r,m)
  | brk=>show k
  | ret v=>show k
 | false=>rw[nc Bf9];show Lr (e,B,z,l)
end
structure It where
 go:Nat->Hp->Prop
 yld:Nat->Hp->V->Hp->Prop
 stop:Nat->Hp->Prop
def FpOk(X:Cx)(pins:PLO)(H:Hp)(b:Uj):Prop:=
 H b=none/\b≠X.env.locals/\b∉X.fs/\(b∈X.ex\/X.s₀⁻¹<=b)/\(∀x c,X.env.cells.lookup x=some c->c≠b)/\∀p∈X.pn++pins,p.1≠b
def Inv.fpOk{X:Cx}{pins:PLO}{d:St}{H H':Hp}{s:Ui}{b:Uj}(I:Inv X pins d H s)(a:s⁻¹<=b)(g:H' b=none):FpOk X pins H' b:=by
 show(g,nq (nh I.lt a),I.nofs a,.inr (ni I.sz a),λx c e z=>?_,λp f z=>?_)
 .let(v,q):=I.cell x c e;show absurd (nh q.lt (by rw[z];show a)) (nv _)
 .show absurd (nh (Dd (I.pin p f).1) (by rw[z];show a)) (nv _)
structure Turn(P:Uk)(w:Ul)(K:Ae)(tg:Expr)(J:It)(fp:List Uj)(it:Uj)(tn:Nat->Um->Prop):Prop where
 mem:it∈fp
 obj:∀i h,tn i h->∀b∈fp,∃o,h.get? b=some o/\∀v,o.data≠ .cell v
 keep:∀i h h',tn i h->(∀b∈fp,∀o,h.get? b=some o->h'.get? b=some o)->tn i h'
 item:∀(X:Cx),X.prog=P->X.w=w->X.K=K->X.calm=true->∀(i:Nat) (pins:PLO) (s:Ui) (σ:St) (H:Hp) (E:VSP),'v'->(∀b∈fp,FpOk X pins H b)->tn i s.heap->J.go i H->
  wpAny (model P w) X.A (pyNext (.ref it)) (λr s1=>∃u,r=some u/\
   wpAny (model P w) X.A (letOwnedTupleGo tg (.ref it) u) (λ_ s2=>∃x H',Inv X pins σ H' s2/\RelV x u/\J.yld i H x H'/\tn (i+1) s2.heap/\∀b∈fp,H' b=none) E s1) E s
 done:∀(X:Cx),X.prog=P->X.w=w->X.K=K->X.calm=true->∀(i:Nat) (pins:PLO) (s:Ui) (σ:St) (H:Hp) (E:VSP),'v'->(∀b∈fp,FpOk X pins H b)->tn i s.heap->J.stop i H->
  wpAny (model P w) X.A (pyNext (.ref it)) (λr s1=>r=none/\Inv X pins σ H s1) E s
 self:∀(A:Around) (i:Nat) (s:Ui) (Q:VSP) (E:VSP),tn i s.heap->Q (.ref it) s->wpAny (model P w) A (pyIter (.ref it)) Q E s
abbrev TI:=St->Hp->(It->Hp->Prop)->Prop
def PIE(X:Cx)(pins:PLO)(h:St)(i:Expr)(R:It->Hp->Prop)(a:Uh)(e:Ui):Prop:=
 ∃(f:Uj) (g:List Uj) (d:Nat->Um->Prop) (J:It) (c:Hp),a= .ref f/\Inv X pins h c e/\Turn X.prog X.w X.K i J g f d/\d 0 e.heap/\(∀b∈g,FpOk X pins c b)/\R J c
def PI(X:Cx)(d iter:Expr)(c:TI):Prop:=
 ∀(a:PLO) (s:Ui) (b:St) (H:Hp) (R:It->Hp->Prop),Inv X a b H s->c b H R->
  ⇑X (eval iter X.env) (λv e=>⇑X (pyIter v) (PIE X a b d R) X.xe e) X.xe s
def Zz7{M:Model}{A:Around}{E:VSP}{s:Ui}{b:Expr}{it:Uj}{u:Uh}{o:Obj}{n:String}{vs:Array Uh}{Q:Unit->Ui->Prop}(c:s.heap.get? it=some o)(f:o.cls= .type n)(e:o.data= .fields vs)
  (d:["enumerate","zip","dict_itemiterator","dict_reverseitemiterator","odict_iterator","itertools.zip_longest","itertools.pairwise"].contains n=false) (a:Q () s):wpAny M A (letOwnedTupleGo b (.ref it) u) Q E s:=by
 ext letOwnedTupleGo;cases b<;>first
  | show Ao a
  |(cases u<;>first
    | show Ao a
    |(show Ac (wpAny_load c ?_)
      rw[f,e];change wpAny M A (if (["enumerate","zip","dict_itemiterator","dict_reverseitemiterator","odict_iterator","itertools.zip_longest","itertools.pairwise"].contains n&&vs[0]?==some (rawInt _))=true then _ else _) Q E s;rw[nc (by intro h;rw[d,Bool.false_and] at h;cases h)];show Ao a))
def Itl(K:Ae)(a:Uj):It:=
 (λi H=>∃b x,SqL K H a b/\b[i]?=some x,λi H x c=>c=H/\∀b,SqL K H a b->b[i]?=some x,λi H=>∃b,SqL K H a b/\b.length<=i)
def Itt(K:Ae)(a:Uj):It:=
 (λi H=>∃b x,SqT K H a b/\b[i]?=some x,λi H x c=>c=H/\∀b,SqT K H a b->b[i]?=some x,λi H=>∃b,SqT K H a b/\b.length<=i)
def Itr(lo:Int)(n:Nat):It:=(λi _=>i<n,λi H x a=>a=H/\x= .int (lo+i),λi _=>n<=i)
def Zj6{P:Uk}{w:Ul}{K:Ae}{R:Expr}(a it:Uj):Turn P w K R (Itl K a) [it] it (λi h=>h.IsListIter it a i) where
 mem:=by simp
 obj:=λi h f b j=>by
  have e:b=it:=by simpa using j
  subst e;let(o,e,c,d):=f;show(o,e,λv z=>by rw[d] at z;cases z)
 keep:=λi h q f k=>f.at λo e=>k it 's' o e
 item:=by intro X C A D O i g s N H E I n f B;subst C A D;let(Q,x,m,y):=B;let(t,r,p,U):=I.list m;let(u,Y,T):=r.get y;let(M,L,Z,J,G,F):=n it 's';show wpAny_pyNext_list_item f p.isList (x:=u) ↥Y λq l S=>?_;have I1:Inv X g N H {s with heap:=q}:=I.turned (t':=s.toks) (λb o j e=>(S.2 b j).trans e) M L J G F;let(o,e,c,d):=id l;show(u,rfl,Zz7 (s:={s with heap:=q}) e c d 'd' (x,H,I1,T,(rfl,λys V=>by rw[I.list_inj V m];show y),l,λb j=>(n b j).1))
 done:=by intro X C A D O i g s N H E I n f B;subst C A D;let(Q,m,y):=B;let(t,r,p,U):=I.list m;let(M,L,Z,J,G,F):=n it 's';have hl:=r.length;show wpAny_pyNext_list_end (I.ok.hd O) f p.isList (by simp;lia) λq eb=>(rfl,I.turned (t':=s.toks) (λb o j e=>eb b o j e) M L J G F)
 self:=λ_ _ _ _ _ f h=>wpAny_pyIter_listiter f h
def Z62{P:Uk}{w:Ul}{K:Ae}{R:Expr}(a it:Uj):Turn P w K R (Itt K a) [it] it (λi h=>h.IsTupleIter it a i) where
 mem:=by simp
 obj:=λi h f b l=>by
  have e:b=it:=by simpa using l
  subst e;let(o,e,c,d):=f;show(o,e,λv z=>by rw[d] at z;cases z)
 keep:=λi h r f k=>f.at λo e=>k it 's' o e
 item:=by intro X C A D O i g s N H E I q f B;subst C A D;let(Q,x,n,y):=B;let(j,t,p,U):=I.tuple n;let(u,Y,T):=t.get y;let(M,L,Z,J,G,F):=q it 's';show wpAny_pyNext_tuple_item f (show s.heap.IsTuple a j.toArray from p) (x:=u) ↥Y λr m S=>?_;have I1:Inv X g N H {s with heap:=r}:=I.turned (t':=s.toks) (λb o l e=>(S.2 b l).trans e) M L J G F;let(o,e,c,d):=id m;show(u,rfl,Zz7 (s:={s with heap:=r}) e c d 'd' (x,H,I1,T,(rfl,λys V=>by rw[I.tuple_inj V n];show y),m,λb l=>(q b l).1))
 done:=by intro X C A D O i g s N H E I q f B;subst C A D;let(Q,n,y):=B;let(j,t,p,U):=I.tuple n;let(M,L,Z,J,G,F):=q it 's';have hl:=t.length;show wpAny_pyNext_tuple_end (I.ok.hd O) f (show s.heap.IsTuple a j.toArray from p) (by simp;lia) λr eb=>(rfl,I.turned (t':=s.toks) (λb o l e=>eb b o l e) M L J G F)
 self:=λ_ _ _ _ _ f h=>wpAny_pyIter_tupleiter f h
def Z64{P:Uk}{w:Ul}{K:Ae}{G:Expr}(it:Uj)(lo:Int)(n:Nat):Turn P w K G (Itr lo n) [it] it (λi h=>IsRangeIter h it (lo+(i:Nat) * 1) ((n:Int) - (i:Nat)) 1) where
 mem:=by simp
 obj:=λi h a b d=>by
  have e:b=it:=by simpa using d
  subst e;show(_,a,λv z=>by
   have F:Data.fields _=Data.cell v:=z;cases F)
 keep:=λi h j a k=>k it 's' _ a
 item:=by intro X q l r p i c s C H E I g a m;subst q l r;let(B,A,M,y,x,u):=g it 's';have W:=Walks.range (prog:=X.prog) (w:=X.w) (I.ok.hd p) it lo 1 n;show W.item i s _ _ m a λv j D L f J=>?_;let(t,rfl):=L;have O:Inv X c C H {s with heap:=j,toks:=D}:=I.turned (λb o d e=>J b o ↥d e) B A y x u;show(_,rfl,Zz7 (s:={s with heap:=j,toks:=D}) (n:="range_iterator") f rfl rfl 'd' (.int (lo+i),H,O,(t,?_),(rfl,rfl),f,λb d=>(g b d).1));rw[Int.mul_one]
 done:=by intro X q l r p i c s C H E I g a m;subst q l r;let(B,A,M,y,x,u):=g it 's';show wpAny_pyNext_range_end (I.ok.hd p) a (by have:n<=i:=m;lia) λj N=>(rfl,I.turned (t':=s.toks) (λb o d e=>N b o d e) B A y x u)
 self:=λ_ _ _ _ _ a h=>wpAny_pyIter_rangeiter a h
section
variable{X:Cx}{tg:Expr}
def Zv6{pins:PLO}{a:St}{H:Hp}{s:Ui}{R:It->Hp->Prop}{E:VSP}{lo hi:Int}{t u v:Tok}{tk:Nat}(I:Inv X pins a H s)(i:-(2 ^ 62)<=lo)(h:lo<2 ^ 62)(g:-(2 ^ 62)<=hi)(f:hi<2 ^ 62)
  (q:R (Itr lo (hi - lo).toNat) H):⇑X (pyIter (.ref s⁻¹)) (PIE X pins a tg R) E {s with heap:=s.heap.push {cls:= .type "range",data:= .fields #[.int lo t,.int hi u,.int 1 v]},toks:=tk}:=by
 show wpAny_pyIter_range (IsRange.new ..) (small_one i h g f) ?_;have c:Inv X pins a H {s with heap:=s.heap.push {cls:= .type "range",data:= .fields #[.int lo t,.int hi u,.int 1 v]},toks:=tk}:=I.kept λb o e=>Ah _ e;show((s.heap.push {cls:= .type "range",data:= .fields #[.int lo t,.int hi u,.int 1 v]}).objs.size,[(s.heap.push {cls:= .type "range",data:= .fields #[.int lo t,.int hi u,.int 1 v]}).objs.size],_,_,H,rfl,
  c.kept (t':=tk) λb o e=>Ah _ e,Z64 _ lo (hi - lo).toNat,?_,λb d=>?_,q)
 .have k:lo+((0:Nat):Int) * 1=lo:=by simp
  have j:(((hi - lo).toNat:Nat):Int) - ((0:Nat):Int)=Builtin.Range.rangeSize lo hi 1:=by rw[rangeSize_one];split<;>lia
  change IsRangeIter _ _ (lo+((0:Nat):Int) * 1) ((((hi - lo).toNat:Nat):Int) - ((0:Nat):Int)) 1;rw[k,j];show Dp _ rfl
 .have e:b=(s.heap.push {cls:= .type "range",data:= .fields #[.int lo t,.int hi u,.int 1 v]}).objs.size:=by simpa using d
  subst e;show c.fpOk (na _) (c.hok.fresh (na _))
def Yt8(c:TA):TI:=λa H R=>c a H λb d=>∃j:Int,b=[.int j]/\ -(2 ^ 62)<=j/\j<2 ^ 62/\R (Itr 0 j.toNat) d
def Zp2{a:Expr}{d:TA}{p pos:Pos}(n:Gl X "range")(m:X.mg "range"=none)(o:PA X [a] d)(l:starEach [a] X.env=[#v[false,eval a X.env]]:=by rfl):PI X tg (.Call (.Name "range" p) [a] [] pos) (Yt8 d):=by
 intro b s f H R I h;show Call_ (Ol I n m boot_range (PyProof.Rows.callWith_type1 (thn (o pos b s f H _ I h) λw x zz=>?_) l rfl));let(v,y,u,i,c):=zz;let(j,e,c,k,q):=c;subst e;cases i with
 | cons r g=>cases g;let(t,rfl):=r;show call_range_1 (Zv6 u 'o' 'o' c k ↥q)
def tFor(f:TI)(g:TG)(h:TS):TS:=λD a H=>f a H λJ k=>∃W:Nat->Nat->St->Hp->Prop,(∃m,W 0 m a k)/\∀i m a H,W i m a H->
 (J.stop i H/\D.nx a H)\/(J.go i H/\∃N:St->Hp->Prop,(∀b c,N b c->∃e,e<m/\W (i+1) e b c)/\∀x c,J.yld i H x c->g x a c λd j=>h {D with nx:=N,ct:=N,bk:=D.nx} d j)
def Qw(fp:List Uj)(h:Um):PLO:=fp.filterMap λb=>(h.get? b).map λo=>#v[b,o]
def X8{fp:List Uj}{h:Um}{b:Uj}{o:Obj}(a:b∈fp)(e:h.get? b=some o):#v[b,o]∈Qw fp h:=List.mem_filterMap.mpr (b,a,by rw[e];rfl)
def Zc9{fp:List Uj}{h:Um}{p:Uj×Obj}(a:p∈Qw fp h):p.1∈fp/\h.get? p.1=some p.2:=by
 let(b,c,e):=List.mem_filterMap.mp a;cases q:h.get? b with
 | none=>rw[q] at e;cases e
 | some o=>rw[q] at e;have d:#v[b,o]=p:=Hb e;subst d;show(c,q)
def Inv.pinned{pins:PLO}{a:St}{H:Hp}{s:Ui}{fp:List Uj}(I:Inv X pins a H s)(i:∀b∈fp,FpOk X pins H b)(h:∀b∈fp,∃o,s.heap.get? b=some o/\∀v,o.data≠ .cell v):Inv X (pins++Qw fp s.heap) a H s:=
 I.pins_of λp g=>(Ap.mp g).elim (λz=>I.pin p (Dm _ z)) λz=>by let(c,e):=Zc9 z;let(l,k,j,_):=i p.1 c;let(o,f,d):=h p.1 c;rw[e] at f;cases f;show(e,l,k,j,d)
def Inv.unpinned{pins pl:PLO}{a:St}{H:Hp}{s:Ui}(I:Inv X (pins++pl) a H s):Inv X pins a H s:=I.pins_of λp b=>I.pin p (Dm _ (Ax _ b))
def Y08{iter:Expr}{body:List Stmt}{wi:TI}{g:TG}{tb:TS}{pos:Pos}(hp:PassesOwn (model X.prog X.w) X.A X.env X.xe)(hc:X.calm=true)(hi:PI X tg iter wi)(hg:PG X tg g)(hb:PSs X body tb)
  (hs:∀x,foldedSetIterable iter X.env x=pure x:=by intro _;rfl):PS X (.For tg iter body [] pos) (tFor wi g tb):=by
 intro pins s σ H D I h;show wpAny_For (thn (hi pins s σ H _ I h) λv s1 h1=>thn h1 λitv s2 h2=>?_) hs;let(it,fp,tn,J,H2,e,I2,T,st2,f2,W,(m0,w0),turn):=h2;subst e;have stat:∀{H':Hp},(∀b∈fp,H' b=none)->∀b∈fp,FpOk X pins H' b:=λhn b hb=>(hn b hb,(f2 b hb).2);show codeAny_forLoop_any (λn s'=>∃i σ' H',Inv X pins σ' H' s'/\tn i s'.heap/\(∀b∈fp,H' b=none)/\W i n σ' H') ?_ m0 (0,σ,H2,I2,st2,λb hb=>(f2 b hb).1,w0);rintro n s3 ⟨i,σ3,H3,I3,st3,fr3,w3⟩;rcases turn i n σ3 H3 w3 with⟨stop,qn⟩|⟨go,N,hN,step⟩
 .refine Ls hp (thn (T.done X rfl rfl rfl hc i pins s3 σ3 H3 X.xe I3 (stat fr3) st3 stop) λr s4 zz=>?_);let(hr,I4):=zz;subst hr;show Lr (σ3,H3,I4,qn)
 .refine Ls hp (thn (T.item X rfl rfl rfl hc i pins s3 σ3 H3 X.xe I3 (stat fr3) st3 go) λr s4 zz=>?_);let(u,hr,h4):=zz;subst hr;show Ls hp (thn h4 λ_ s5 zz=>?_);let(x,H5,I5,r5,y5,st5,fr5):=zz;have I5':=I5.pinned (stat fr5) (T.obj _ _ st5);show Ls hp (thn (hg _ s5 σ3 H5 x u _ I5' r5 (step x H5 y5)) λ_ s6 zz=>?_);let(σ6,H6,I6,q6):=zz;show Ls hp (thn (hb _ s6 σ6 H6 _ I6 q6) λf s7 q7=>?_);have again:∀{σ7:St} {H7:Hp},Inv X (pins++Qw fp s5.heap) σ7 H7 s7->N σ7 H7->∃m,m<n/\∃i σ' H',Inv X pins σ' H' s7/\tn i s7.heap/\(∀b∈fp,H' b=none)/\W i m σ' H':=fun{σ7 H7} I7 n7=>by let(m',hm,w7):=hN σ7 H7 n7;show(m',hm,i+1,σ7,H7,I7.unpinned,T.keep _ _ _ st5 λb hb o e=>(I7.pin #v[b,o] (Dm _ (Dm _ (X8 hb e)))).1,λb hb=>?_,w7);let(o,e,d):=T.obj _ _ st5 b hb;show(I7.pin #v[b,o] (Dm _ (Dm _ (X8 hb e)))).2.1
  cases f with
  | next=>let(σ7,H7,I7,n7):=q7;show again I7 n7
  | cont=>let(σ7,H7,I7,n7):=q7;show again I7 n7
  | brk=>let(σ7,H7,I7,q7):=q7;show(σ7,H7,I7.unpinned,q7)
  | ret v=>let(x7,σ7,H7,I7,r7,q7):=q7;show(x7,σ7,H7,I7.unpinned,r7,q7)
end
abbrev R2:=V->V->Hp->VK->Prop
def OpR(X:Cx)(f:Uh->Uh->Sem Uh)(r:R2):Prop:=
 ∀(a:PLO) (s:Ui) (b:St) (H:Hp) (x y:V) (v u:Uh) (Q:VK),Inv X a b H s->RelV x v->RelV y u->r x y H Q->
  ⇑X (f v u) (EP X a b Q) X.xe s
def UnR(X:Cx)(f:Uh->Sem Uh)(r:V->Hp->VK->Prop):Prop:=
 ∀(a:PLO) (s:Ui) (b:St) (H:Hp) (x:V) (v:Uh) (Q:VK),Inv X a b H s->RelV x v->r x H Q->
  ⇑X (f v) (EP X a b Q) X.xe s
def Xm(X:Cx)(f:Uh)(r:LV->Hp->VK->Prop):Prop:=
 ∀(a:PLO) (s:Ui) (b:St) (H:Hp) (c:LV) (d:LW) (Q:VK),Inv X a b H s->Vals c d->r c H Q->
  ⇑X (call f d) (EP X a b Q) X.xe s
def TruR(X:Cx)(r:V->Hp->(Bool->Hp->Prop)->Prop):Prop:=
 ∀(a:PLO) (s:Ui) (b:St) (H:Hp) (x:V) (v:Uh) (Q:Bool->Hp->Prop),Inv X a b H s->RelV x v->r x H Q->
  ⇑X (truthy v) (TP X a b Q) X.xe s
def tOp(r:R2)(c b:TE):TE:=λa H Q=>c a H λx e=>b a e λy d=>r x y d Q
def tUn(r:V->Hp->VK->Prop)(b:TE):TE:=λa H Q=>b a H λx c=>r x c Q
def rI(C:Int->Int->Prop)(g:Int->Int->V):R2:=λx y H Q=>∃i j,x= .int i/\y= .int j/\C i j/\Q (g i j) H
def rI0(g:Int->Int->V):R2:=λx y H Q=>∃i j,x= .int i/\y= .int j/\Q (g i j) H
def rU(g:Int->V):V->Hp->VK->Prop:=λx H Q=>∃i,x= .int i/\Q (g i) H
section
variable{X:Cx}{a b c:Expr}{ta tb tc:TE}{pos:Pos}
def binT(r:PE X a ta)(q:PE X b tb){pins:PLO}{s:Ui}{d:St}{H:Hp}{R:V->V->Hp->Prop}(I:Inv X pins d H s)
  (h:ta d H λx j=>tb d j λy H2=>R x y H2) {Q:VSP} {f:Uh->Uh->Sem Uh}
  (p:∀v u i x y H2,Inv X pins d H2 i->RelV x v->RelV y u->R x y H2->⇑X (f v u) Q X.xe i):
  ⇑X (eval a X.env) (λv g=>⇑X (eval b X.env) (λu e=>⇑X (f v u) Q X.xe e) X.xe g) X.xe s:=by
 show thn (r pins s d H _ I h) λv k zz=>?_;let(x,j,z,m,o):=zz;show thn (q pins k d j _ z o) λu i zz=>?_;let(y,H2,t,l,n):=zz;show p v u i x y H2 t m l n
def Yt2{op:Operator}{r:R2}(j:OpR X (binaryOp op) r)(l:PE X a ta)(k:PE X b tb):PE X (.BinOp a op b pos) (tOp r ta tb):=by intro d s e H Q I h;show wpAny_BinOp (binT l k I h λv u f x y n m i g q=>j d f e n x y v u Q m i g q)
def Ym2{op:UnaryOp}{r:V->Hp->VK->Prop}(j:UnR X (unaryOp op) r)(k:PE X a ta):PE X (.UnaryOp op a pos) (tUn r ta):=by intro d s e H Q I h;show UnaryOp_ (thn (k d s e H _ I h) λv f zz=>by let(x,m,l,g,i):=zz;show j d f e m x v Q l g i)
def opI{f:Uh->Uh->Sem Uh}{C:Int->Int->Prop}{g:Int->Int->Int}
  (d:∀(i j:Int) (t u:Tok) (s:Ui) (Q:VSP) (E:VSP),C i j->Q (.int (g i j) s.toks) {s with toks:=s.toks+1}->⇑X (f (.int i t) (.int j u)) Q E s):
  OpR X f (rI C λi j=> .int (g i j)):=by
 intro e s o H x y v u Q I m l h;let(i,j,rfl,rfl,n,q):=h;let(t,rfl):=m;let(k,rfl):=l;show d i j t k s _ _ n (.int (g i j),H,I.tok _,(_,rfl),q)
def opI0{f:Uh->Uh->Sem Uh}{g:Int->Int->Int}
  (d:∀(i j:Int) (t u:Tok) (s:Ui) (Q:VSP) (E:VSP),Q (.int (g i j) s.toks) {s with toks:=s.toks+1}->⇑X (f (.int i t) (.int j u)) Q E s):
  OpR X f (rI0 λi j=> .int (g i j)):=by
 intro e s n H x y v u Q I m l h;let(i,j,rfl,rfl,q):=h;let(t,rfl):=m;let(k,rfl):=l;show d i j t k s _ _ (.int (g i j),H,I.tok _,(_,rfl),q)
def opB0{f:Uh->Uh->Sem Uh}{g:Int->Int->Bool}
  (d:∀(i j:Int) (t u:Tok) (s:Ui) (Q:VSP) (E:VSP),Q (.bool (g i j)) s->⇑X (f (.int i t) (.int j u)) Q E s):
  OpR X f (rI0 λi j=> .bl (g i j)):=by
 intro e s n H x y v u Q I m l h;let(i,j,rfl,rfl,q):=h;let(t,rfl):=m;let(k,rfl):=l;show d i j t k s _ _ (.bl (g i j),H,I,rfl,q)
def CPow(i j:Int):Prop:=0<=j/\j<=1000000/\i.natAbs<2 ^ 64
def CMul(i j:Int):Prop:=(-(2 ^ 64)<i/\i<2 ^ 64)\/(-(2 ^ 64)<j/\j<2 ^ 64)
def CMul.ok{i j:Int}(h:CMul i j):IntMulOk i j:=by
 rcases h with⟨e,d⟩|⟨e,d⟩
 .show .of_left (intBits_le_64 e d)
 .show .of_right (intBits_le_64 e d)
def Yl8:OpR X (binaryOp .Add) (rI0 λi j=> .int (i+j)):=opI0 λ_ _ _ _ _ _ _ q=>add_int q
def Ym9:OpR X (binaryOp .Sub) (rI0 λi j=> .int (i - j)):=opI0 λ_ _ _ _ _ _ _ q=>sub_int q
def Y56:OpR X (binaryOp .Mod) (rI (λ_ j=>j≠0) λi j=> .int (i.fmod j)):=opI λ_ _ _ _ _ _ _ d q=>mod_int' d q
def Yj0:OpR X (binaryOp .Pow) (rI CPow λi j=> .int (i ^ j.toNat)):=opI λ_ _ _ _ _ _ _ d q=>pow_int_small d.1 d.2.1 d.2.2 q
def unI{f:Uh->Sem Uh}{g:Int->Int}
  (d:∀(i:Int) (t:Tok) (s:Ui) (Q:VSP) (E:VSP),Q (.int (g i) s.toks) {s with toks:=s.toks+1}->⇑X (f (.int i t)) Q E s):
  UnR X f (rU λi=> .int (g i)):=by
 intro e s k H x v Q I j h;let(i,rfl,q):=h;let(t,rfl):=j;show d i t s _ _ (.int (g i),H,I.tok _,(_,rfl),q)
def Y33:UnR X (unaryOp .USub) (rU λi=> .int (-i)):=unI λ_ _ _ _ _ q=>neg_int q
end
def scal:V->V->Bool
 | .non,.non=>true | .non,.int _=>true | .int _,.non=>true | .non,.bl _=>true | .bl _,.non=>true | .non,.str _=>true | .str _,.non=>true
 | .int _,.int _=>true | .bl _,.bl _=>true | .str _,.str _=>true | .byt _,.byt _=>true
 | .int _,.str _=>true | .str _,.int _=>true | .bl _,.str _=>true | .str _,.bl _=>true
 | _,_=>false
def rEq:R2:=λx y H Q=>scal x y=true/\Q (.bl (decide (x=y))) H
def rNe:R2:=λx y H Q=>scal x y=true/\Q (.bl (!decide (x=y))) H
def Zk5{i j:Int}:decide (V.int i=V.int j)=(i==j):=by rw[Bool.eq_iff_iff];simp
def Y35{i j:Bool}:decide (V.bl i=V.bl j)=(i==j):=by rw[Bool.eq_iff_iff];simp
def Zg6{i j:Str}:decide (V.str i=V.str j)=(i==j):=by rw[Bool.eq_iff_iff];simp
def Ze6{i j:Array UInt8}:decide (V.byt i=V.byt j)=(i.toList==j.toList):=by rw[Bool.eq_iff_iff];cases i;cases j;simp
section
variable{X:Cx}{a b c:Expr}{ta tb tc:TE}{pos:Pos}
def Zr{pins:PLO}{d:St}{H:Hp}{s:Ui}{Q:VK}{k f:Bool}(I:Inv X pins d H s)(q:Q (.bl k) H)(e:k=f):EP X pins d Q (.bool f) s:=by subst e;show(.bl k,H,I,rfl,q)
def Ys1:OpR X (compareOp .Eq) rEq:=by
 intro k s l H x y v u Q I g d h;let(f,q):=h;cases x with
 | non=>
  cases g;cases y with
  | non=>cases d;show PySem.EqNone.eq_none_none (Zr I q 's')
  | bl j=>cases d;show PySem.EqNone.eq_none_bool (Zr I q 's')
  | int j=>let(e,rfl):=d;show PySem.EqNone.eq_none_int (Zr I q 's')
  | str j=>let(e,rfl):=d;show PySem.EqNone.eq_none_str (Zr I q 's')
  | _=>show 'f'
 | bl i=>
  cases g;cases y with
  | non=>cases d;show PySem.EqNone.eq_bool_none (Zr I q 's')
  | bl j=>cases d;show eq_bool (Zr I q Y35)
  | str j=>let(e,rfl):=d;show PySem.EqMixed.eq_bool_str (Zr I q 's')
  | _=>show 'f'
 | int i=>
  let(t,rfl):=g;cases y with
  | non=>cases d;show PySem.EqNone.eq_int_none (Zr I q 's')
  | int j=>let(e,rfl):=d;show eq_int (Zr I q Zk5)
  | str j=>let(e,rfl):=d;show PySem.EqMixed.eq_int_str (Zr I q 's')
  | _=>show 'f'
 | str i=>
  let(t,rfl):=g;cases y with
  | non=>cases d;show PySem.EqNone.eq_str_none (Zr I q 's')
  | bl j=>cases d;show PySem.EqMixed.eq_str_bool (Zr I q 's')
  | int j=>let(e,rfl):=d;show PySem.EqMixed.eq_str_int (Zr I q 's')
  | str j=>let(e,rfl):=d;show eq_str (Zr I q Zg6)
  | _=>show 'f'
 | byt i=>
  let(t,rfl):=g;cases y with
  | byt j=>let(e,rfl):=d;show PySem.W.eq_bytes (Zr I q Ze6)
  | _=>show 'f'
 | _=>cases y<;>show 'f'
def Yv5:OpR X (compareOp .NotEq) rNe:=by
 intro k s l H x y v u Q I g d h;let(f,q):=h;cases x with
 | non=>
  cases g;cases y with
  | non=>cases d;show PySem.EqNone.ne_none_none (Zr I q 's')
  | bl j=>cases d;show PySem.EqNone.ne_none_bool (Zr I q 's')
  | int j=>let(e,rfl):=d;show PySem.EqNone.ne_none_int (Zr I q 's')
  | str j=>let(e,rfl):=d;show PySem.EqNone.ne_none_str (Zr I q 's')
  | _=>show 'f'
 | bl i=>
  cases g;cases y with
  | non=>cases d;show PySem.EqNone.ne_bool_none (Zr I q 's')
  | bl j=>cases d;show ne_bool (Zr I q (congrArg not Y35))
  | str j=>let(e,rfl):=d;show PySem.EqMixed.ne_bool_str (Zr I q 's')
  | _=>show 'f'
 | int i=>
  let(t,rfl):=g;cases y with
  | non=>cases d;show PySem.EqNone.ne_int_none (Zr I q 's')
  | int j=>let(e,rfl):=d;show ne_int (Zr I q (congrArg not Zk5))
  | str j=>let(e,rfl):=d;show PySem.EqMixed.ne_int_str (Zr I q 's')
  | _=>show 'f'
 | str i=>
  let(t,rfl):=g;cases y with
  | non=>cases d;show PySem.EqNone.ne_str_none (Zr I q 's')
  | bl j=>cases d;show PySem.EqMixed.ne_str_bool (Zr I q 's')
  | int j=>let(e,rfl):=d;show PySem.EqMixed.ne_str_int (Zr I q 's')
  | str j=>let(e,rfl):=d;show ne_str (Zr I q (congrArg not Zg6))
  | _=>show 'f'
 | byt i=>
  let(t,rfl):=g;cases y with
  | byt j=>let(e,rfl):=d;show PySem.W.ne_bytes (Zr I q (congrArg not Ze6))
  | _=>show 'f'
 | _=>cases y<;>show 'f'
def Yr6:OpR X (compareOp .Lt) (rI0 λi j=> .bl (decide (i<j))):=opB0 λ_ _ _ _ _ _ _ q=>lt_int q
def Ys3:OpR X (compareOp .LtE) (rI0 λi j=> .bl (decide (i<=j))):=opB0 λ_ _ _ _ _ _ _ q=>le_int q
def Yr4:OpR X (compareOp .Gt) (rI0 λi j=> .bl (decide (j<i))):=opB0 λ_ _ _ _ _ _ _ q=>gt_int q
def Yv8:OpR X (compareOp .GtE) (rI0 λi j=> .bl (decide (j<=i))):=opB0 λ_ _ _ _ _ _ _ q=>ge_int q
def Zn3:OpR X (compareOp .In) (λx y H Q=>∃i j,x= .str i/\y= .str j/\Q (.bl (!(Ml j i 0 j.length 1).isEmpty)) H):=by intro d s g H x y v u Q I f e h;let(i,j,rfl,rfl,q):=h;let(t,rfl):=f;let(k,rfl):=e;show in_str (Zr I q rfl)
def Pd:OpR X (compareOp .Is) (λx y H Q=>y= .non/\Q (.bl (decide (x= .non))) H):=by
 intro e s g H x y v u Q I d f h;let(rfl,q):=h;cases f;show is_none_gen (Zr I q ?_);cases x<;>first
  |(cases d;rfl)
  |(let(t,rfl):=d;rfl)
def Vr:OpR X (compareOp .IsNot) (λx y H Q=>y= .non/\Q (.bl (!decide (x= .non))) H):=by
 intro e s g H x y v u Q I d f h;let(rfl,q):=h;cases f;show isnot_none_gen (Zr I q ?_);cases x<;>first
  |(cases d;rfl)
  |(let(t,rfl):=d;rfl)
def Fp:OpR X (compareOp .NotIn) (λx y H Q=>∃i j,x= .str i/\y= .str j/\Q (.bl (!(!(Ml j i 0 j.length 1).isEmpty))) H):=by intro d s g H x y v u Q I f e h;let(i,j,rfl,rfl,q):=h;let(t,rfl):=f;let(k,rfl):=e;show notIn_str (Zr I q rfl)
def Ye7{op:CmpOp}{r:R2}(j:OpR X (compareOp op) r)(m:PE X a ta)(l:PE X b tb)(k:behindInMarks op b=false):PE X (.Compare a [op] [b] pos) (tOp r ta tb):=by intro d s e H Q I h;show wpAny_Compare1 (binT m l I h λv u f x y o n i g q=>j d f e o x y v u Q n i g q) k
def Yl1(t:TE):TT:=λd H Q=>t d H λx e=>∃k,x= .bl k/\Q k e
def Y84{op:CmpOp}{r:R2}(q:OpR X (compareOp op) r)(A:PE X a ta)(w:PE X b tb)(t:behindInMarks op b=false):PT X (.Compare a [op] [b] pos) (Yl1 (tOp r ta tb)):=by
 intro d s f H Q I h;show wpAny_isTrue_Compare1 (thn (A d s f H _ I h) λv i (x,G,D,m,p)=>thn (w d i f G _ D p) λu g (y,F,C,l,o)=>
  thn (q d g f F x y v u _ C m l o) λc J (z,E,B,j,k,e,n)=>?_) t
 subst e;cases j;show wpAny_truthy_bool (E,B,n)
def TruV(K:Ae)(x:V)(H:Hp)(k:Bool):Prop:=
 match x with
 | .non=>k=false
 | .bl b=>k=b
 | .int i=>k=(i !=0)
 | .str y=>y.length<=sizeLine/\k=((y.length:Int) !=0)
 | .byt y=>y.size<=sizeLine/\k=((y.size:Int) !=0)
 | .ref p=>(∃d,SqL K H p d/\k= !d.isEmpty)\/(∃d,SqT K H p d/\k= !d.isEmpty)\/∃e,H p=some (.dK e)/\k= !e.isEmpty
 | _=>False
def Z95{d:Type}{kvs:List (d×V)}{vs:List (d×Uh)}(r:KV kvs vs):(!vs.isEmpty)= !kvs.isEmpty:=by cases r<;>rfl
def O2{xs:LV}{its:LW}(r:Vals xs its):(!its.toArray.isEmpty)= !xs.isEmpty:=by cases r<;>simp
def Tu:(sizeLine:Nat)<2 ^ 63:=by rw[Mw];decide
def Z43:TruR X (λx H Q=>∃k,TruV X.K x H k/\Q k H):=by
 intro pins s σ H x v Q I rx h;let(k,e,q):=h;have hl:=Tu;have hs:sizeLine=16777216:=Mw;cases x with
 | non=>cases rx;have e':k=false:=e;subst e';show truthy_none (H,I,q)
 | bl b=>cases rx;have e':k=b:=e;subst e';show wpAny_truthy_bool (H,I,q)
 | int i=>let(t,rfl):=rx;have e':k=(i !=0):=e;subst e';show PySem.P.truthy_int (H,I,q)
 | str y=>let(t,rfl):=rx;obtain⟨hy,e'⟩:y.length<=sizeLine/\k=((y.length:Int) !=0):=e;subst e';show PySem.P.truthy_str 'o' (H,I.tok _,q)
 | byt y=>let(t,rfl):=rx;obtain⟨hy,e'⟩:y.size<=sizeLine/\k=((y.size:Int) !=0):=e;subst e';show PySem.W.truthy_bytes 'o' (H,I.tok _,q)
 | ref p=>
  cases rx;have e':(∃xs,SqL X.K H p xs/\k= !xs.isEmpty)\/(∃xs,SqT X.K H p xs/\k= !xs.isEmpty)\/∃kvs,H p=some (.dK kvs)/\k= !kvs.isEmpty:=e;rcases e' with⟨xs,hx,e'⟩|⟨xs,hx,e'⟩|⟨kvs,hx,e'⟩
  .subst e';let(its,r,pl,hz):=I.list hx;have hlen:=r.length;show wpAny_truthy_list pl.isList (by erw[Aq];lia) (H,I.tok _,by rw[O2 r];show q)
  .subst e';let(its,r,pl,hz):=I.tuple hx;have hlen:=r.length;show truthy_tuple pl (by erw[Aq];lia) (H,I.tok _,by rw[O2 r];show q)
  .subst e';obtain⟨hz,hS,vs,r,m⟩:kvs.length<=sizeLine/\(p==sysModules)=false/\∃vs,KV kvs vs/\s.heap.DictOf (Zl X.prog X.w) p vs:=I.hok p _ hx;have hlen:kvs.length=vs.length:=Paired.length r;show wpAny_truthy_dict hS m 'o' (H,I.tok _,by rw[Z95 r];show q)
 | _=>show(show False from e).elim
def Zv7(m:PE X a ta)(l:∀d,isTrue a X.env d=(do let v <-d;standAt a.pos;holding [v] (truthy v))):
  PT X a (λf H Q=>ta f H λx H'=>∃k,TruV X.K x H' k/\Q k H'):=by
 intro e s f H Q I h;show isTrue_plain (thn (m e s f H _ I h) λv g zz=>by let(x,o,n,i,j):=zz;show Z43 e g f o x v Q n i j) (l _)
def Za0:OpR X (binaryOp .Add) (λx y H Q=>∃i j,x= .str i/\y= .str j/\i.length+j.length<=sizeLine/\Q (.str (i++j)) H):=by intro d s l H x y v u Q I g f h;let(i,j,rfl,rfl,k,q):=h;let(t,rfl):=g;let(e,rfl):=f;show add_str (λe m=>(.str (i++j),H,I.tok _,(_,rfl),q)) k
def Vz{x:V}{us:LW}(r:Vals [x] us):∃u,us=[u]/\RelV x u:=by
 cases r with
 | cons e d=>cases d;show(_,rfl,e)
def Ct{x y:V}{us:LW}(r:Vals [x,y] us):∃u d,us=[u,d]/\RelV x u/\RelV y d:=by
 cases r with
 | cons h g=>
  cases g with
  | cons f e=>cases e;show(_,_,rfl,h,f)
def Zc5(f:X.calm=true):Xm X (.builtin "max") (λxs H Q=>∃i j,xs=[.int i,.int j]/\Q (.int (if j >i then j else i)) H):=by
 intro e s g H xs m Q I r h;let(i,j,rfl,q):=h;let(u,l,rfl,(t,rfl),(o,rfl)):=Ct r;show max_two_ints (I.ok.hd f) λp n k=>(_,H,I.kept k,?_,q);by_cases d:j >i
 .rw[ng d,ng d];show(_,rfl)
 .rw[nc d,nc d];show(_,rfl)
def Zg3(f:X.calm=true):Xm X (.builtin "min") (λxs H Q=>∃i j,xs=[.int i,.int j]/\Q (.int (if j<i then j else i)) H):=by
 intro e s g H xs m Q I r h;let(i,j,rfl,q):=h;let(u,l,rfl,(t,rfl),(o,rfl)):=Ct r;show min_two_ints (I.ok.hd f) λp n k=>(_,H,I.kept k,?_,q);by_cases d:j<i
 .rw[ng d,ng d];show(_,rfl)
 .rw[nc d,nc d];show(_,rfl)
end
structure ObjM(h:Um)(x dx C:Uj)(mA:Str->Option Uh):Prop where
 obj:h.get? x=some (PySem.W.instObj C dx)
 ns:h.Ns1 dx mA
 ne:dx≠x
set_option tactic.hygienic true in
def E1{h:Um}{f:Uj}{c:Str->Option Uh}(n:h.Ns1 f c):∃od,h.get? f=some od/\∀name,PySem.W.lookIn name od=some (c name):=by
 let(o,d,p,i,l,k,_,j):=n;show(o,i,λname=>?_);have e:=j name;unfold nsFind findBy at e;rw[<-Array.find?_toList] at e;ext PySem.W.lookIn;rw[l];dsimp only;split
 .rename_i y q;rw[q] at e;show congrArg some e
 .rename_i q;rw[q] at e;have a:d.toList.any (·.refKey)=false:=by rw[List.any_eq_false];intro y g;let(z,t,b):=k y (Array.mem_toList_iff.mp g);simp[DictEntry.refKey,b]
  have m:¬d.toList.any (·.refKey)=true:=by rw[a];show Bf9
  rw[nc m];show congrArg some e
def ObjM.look{h:Um}{x b C:Uj}{a:Str->Option Uh}(I:ObjM h x b C a):∃od,PySem.W.InstAt h x (PySem.W.instObj C b) C (some od)/\∀name,PySem.W.lookIn name od=some (a name):=
 let (od,c,d):=E1 I.ns
 (od,(I.obj,rfl,rfl,c),d)
def RelO.some_of{v:V}{o:Option Uh}(r:RelO (some v) o):∃u,o=some u/\RelV v u:=by
 cases o with
 | none=>show(show False from r).elim
 | some u=>show(u,rfl,r)
def RelO.none_of{o:Option Uh}(r:RelO none o):o=none:=by
 cases o with
 | none=>rfl
 | some u=>show(show False from r).elim
section
variable{P:Uk}{w:Ul}{H H':Hp}{h h':Um}{a C dx:Uj}{fs fs':List (Str×V)}
def Y99(c:HOk P w H h)(e:H a=some (.ins C dx fs)):∃b,ObjM h a dx C b/\(∀f,RelO (fs.lookup f) (b f))/\PySem.Within b (fs.map (·.1))/\fs.length<=1000/\H dx=some (.own a):=by let(d,z,i,g,b,n,r,q):=(show Yb P w H h a (.ins C dx fs) from c a _ e);show(b,(g,n,i),r,q,z,d)
end
structure Cls(K:Ae)(C:Uj):Prop where
 pg:PySem.W.plainGet K C Str.empty=true
 hd:PySem.W.hasDictIn K C=true
 po:PySem.W.plainOver K C=true
 sa:Iy K (.ref C) "__setattr__"=some (some (.builtin "object.__setattr__"))
def Cls.get{K:Ae}{C:Uj}(c:Cls K C)(f:Str):PySem.W.plainGet K C f=true:=c.pg
section
variable{X:Cx}{pins:PLO}{σ:St}{H:Hp}{s:Ui}{A:Around}{E:VSP}{Q:VSP}{c:Uh}{b:Bool}
inductive TyOf (K:Ae) (H:Hp):V->Uh->Prop where
 | non:TyOf K H .non (.type "NoneType")
 | bl (x:Bool):TyOf K H (.bl x) (.type "bool")
 | int (i:Int):TyOf K H (.int i) (.type "int")
 | str (x:Str):TyOf K H (.str x) (.type "str")
 | flt (x:UInt64):TyOf K H (.flt x) (.type "float")
 | lst {a:Uj} {xs:LV} (e:H a=some (.lst xs)):TyOf K H (.ref a) (.type "list")
 | frz {a:Uj} {o:Obj} {xs:LV} (e:H a=some (.frz o (.lst xs))):TyOf K H (.ref a) (.type "list")
 | tup {a:Uj} {xs:LV} (e:H a=some (.tup xs)):TyOf K H (.ref a) (.type "tuple")
 | dK {a:Uj} {kvs:List (Key×V)} (e:H a=some (.dK kvs)):TyOf K H (.ref a) (.type "dict")
 | dT {a:Uj} {kvs:List (List Key×V)} (e:H a=some (.dT kvs)):TyOf K H (.ref a) (.type "dict")
 | ins {a C dx:Uj} {fs:List (Str×V)} (e:H a=some (.ins C dx fs)) (cl:Cls K C) (ha:Iy K (.ref C) "__class__"=some (some (.builtin "object.__class__")))
   (hn:PySem.W.specialIn K (.builtin "object.__class__") "__get__"=some (some (.builtin "getset_descriptor.__get__"))) (htk:PySem.W.takesIn K (.builtin "object.__class__")=some true)
   (hm:Lv K C (.type "object")=some true):TyOf K H (.ref a) (.ref C)
def Zb8{x:V}{u t:Uh}(I:'v')(d:RelV x u)(v:TyOf X.K H x t)(e:Kk X.K t c=some b)(h:∀tk,Q (.bool b) {s with toks:=tk}):
  wpAny (model X.prog X.w) A (call (.builtin "isinstance") [u,c]) Q E s:=by
 cases v with
 | non=>cases (show u=Value.none from d);show Kc PySem.W.kitx_none I.kIn Ld e (λz=>nomatch z) h
 | bl y=>cases (show u=Value.bool y from d);show Kc PySem.W.kitx_bool I.kIn Ld e (λz=>nomatch z) h
 | int i=>let(t,q):=(show ∃t,u=Value.int i t from d);cases q;show Kc PySem.W.kitx_int I.kIn Ld e (λz=>nomatch z) h
 | str y=>let(t,q):=(show ∃t,u=Value.str y t from d);cases q;show Kc PySem.W.kitx_str I.kIn Ld e (λz=>nomatch z) h
 | flt y=>let(t,q):=(show ∃t,u=Value.float y t from d);cases q;show Kc PySem.W.kitx_float I.kIn Ld e (λz=>nomatch z) h
 | @lst a k f=>cases (show u=Value.ref a from d);let(_,_,n,_,g):=(show Yb X.prog X.w H s.heap a (.lst k) from I.hok a _ f);show Kc PySem.W.kitx_list I.kIn (_,g,rfl) e (λz=>nomatch z) h
 | @frz a B k f=>cases (show u=Value.ref a from d);let(_,_,_,n,_,g):=(show Yb X.prog X.w H s.heap a (.frz B (.lst k)) from I.hok a _ f);show Kc PySem.W.kitx_list I.kIn (_,g,rfl) e (λz=>nomatch z) h
 | @tup a k f=>cases (show u=Value.ref a from d);let(_,_,_,p):=(show Yb X.prog X.w H s.heap a (.tup k) from I.hok a _ f);let(o,g,l,_):=p;show Kc PySem.W.kitx_tuple I.kIn (o,g,l) e (λz=>nomatch z) h
 | @dK a j f=>cases (show u=Value.ref a from d);let(_,_,N,_,p):=(show Yb X.prog X.w H s.heap a (.dK j) from I.hok a _ f);let(o,L,M,g,l,_):=p;show Kc PySem.W.kitx_dict I.kIn (o,g,l.1) e (λz=>nomatch z) h
 | @dT a j f=>cases (show u=Value.ref a from d);let(_,_,k,_,o,L,M,g,l,_):=(show Yb X.prog X.w H s.heap a (.dT j) from I.hok a _ f);show Kc PySem.W.kitx_dict I.kIn (o,g,l.1) e (λz=>nomatch z) h
 | @ins a C T S f r G D m F=>cases (show u=Value.ref a from d);let(R,O,_):=Y99 I.hok f;let(P,J,_):=O.look;show Kc (PySem.W.kitx_own (r.get _) r.hd G D m F) I.kIn J e (λz=>nomatch z) h
end
structure Room(k:Nat)(A:Around):Prop where
 hd:A.handled=none
 dp:A.depth+3 * k+5<recursionLimit
 un:A.units+16 * k+200<cLine
def Room.mono{j k:Nat}{A:Around}(r:Room k A)(h:j<=k):Room j A:=(r.hd,by have:=r.dp;lia,by have:=r.un;lia)
def Room.deeper{k:Nat}{A:Around}(r:Room (k+1) A)(env:Env):Room k (A.deeper env):=
 (r.hd,by have:=r.dp;change A.depth+1+3 * k+5<_;lia,by have:=r.un;change A.units+3+16 * k+200<_;lia)
def Z81{A:Around}{C:Uj}{us:LW}{a:List (Str×Uh)}:(A.under (.builtin "type.__call__" (.ref C::us,a))).depth=A.depth+1:=by
 first | rfl | simp[Around.under,Code.weight,Code.isCreation,Code.isGuard,Code.isCaller,Code.frames,Code.isFrame,guardIds]
def Za3{A:Around}{C:Uj}{us:LW}{a:List (Str×Uh)}:(A.under (.builtin "type.__call__" (.ref C::us,a))).units=A.units+1:=by
 first | rfl | simp[Around.under,Code.cUnits,Code.frames,Code.isFrame]
def Room.make{k:Nat}{A:Around}(r:Room (k+1) A)(C:Uj)(us:LW)(a:List (Str×Uh)):Room k (A.under (.builtin "type.__call__" (.ref C::us,a))):=
 (r.hd,by have:=r.dp;rw[Z81];lia,by have:=r.un;rw[Za3];lia)
def Room.depth{k:Nat}{A:Around}(r:Room k A):A.depth<recursionLimit:=by have:=r.dp;lia
def Room.units{k:Nat}{A:Around}(r:Room k A):A.units+64<cLine:=by have:=r.un;lia
def tNil:TA:=λ_ H Q=>Q [] H
def Yu0(d:TE)(c:TA):TA:=λa H Q=>d a H λx f=>c a f λb e=>Q (x::b) e
section
variable{X:Cx}{e:Expr}{es:List Expr}{te:TE}{t:TA}{pos:Pos}
def S4:PA X [] tNil:=λ_ _ _ _ H Q I h=>Calls.spliced_nil ([],H,I,.nil,h)
def W4(m:PE X e te)(l:PA X es t)(k:starEach (e::es) X.env=#v[false,eval e X.env]::starEach es X.env:=by rfl):PA X (e::es) (Yu0 te t):=by intro pos a s b H Q I h;rw[k];change wpAny _ _ (spliced (#v[false,eval e X.env]::backTo pos (starEach es X.env))) _ _ s;show Calls.spliced_cons (thn (m a s b H _ I h) λu d zz=>?_);let(x,q,o,g,j):=zz;show thn (l pos a d b q _ o j) λr v zz=>by let(c,p,n,f,i):=zz;show(x::c,p,n,.cons g f,i)
def tTup(t:TA):TE:=λc H Q=>t c H λa b=>a.length<=sizeLine/\∀p,b p=none->Q (.ref p) (upd b p (.tup a))
def tLst(t:TA):TE:=λc H Q=>t c H λa b=>a.length<=sizeLine/\∀p,b p=none->Q (.ref p) (upd b p (.lst a))
def Yj1{x1}(h:PA X es t):PE X (.Tuple es x1 pos) (tTup t):=by intro a s g H Q I k;show wpAny_Tuple_spliced (thn (h pos a s g H _ I k) λj c (i,f,d,r,z,q)=>(by rw[<-r.length];show z,?_));have l:f c⁻¹=none:=d.hok.fresh (na _);show(.ref c⁻¹,upd f c⁻¹ (.tup i),d.laid (t':=c.toks) (λb u e=>Ah _ e) (na _) ?_,rfl,q _ l);show(z,j,r,(_,Dp _ rfl,rfl,_,rfl))
def Yh3(h:PA X es t):PE X (.List es pos) (tLst t):=by intro a s g H Q I k;show wpAny_List_spliced (thn (h pos a s g H _ I k) λj c (i,f,d,r,z,q)=>(by rw[<-r.length];show z,?_));have l:f c⁻¹=none:=d.hok.fresh (na _);show(.ref c⁻¹,upd f c⁻¹ (.lst i),d.laid (t':=c.toks) (λb u e=>Ah _ e) (na _) ?_,rfl,q _ l);show(z,j,0,r,Dp _ rfl)
end
abbrev Sp:=LV->Hp->VK->XK->Prop
abbrev CXT:=List Env->Hp->Ui->XK->Uh->Ui->Prop
structure Env0(P:Uk)(w:Ul)(K:Ae)(mg:Str->Option Uh)(base:Um)(A:Around)(outer:List Env)(s:Ui)(H:Hp):Prop where
 frames:A.frames=some outer
 mod:Mod K mg base
 bs:∀b o,base.get? b=some o->s.heap.get? b=some o/\H b=none
 bsz:base.objs.size<=s⁻¹
 funs:s.heap.FunFrames base outer
 frf:∀b∈frs outer,H b=none
 hok:HOk P w H s.heap
 bare:AllBare s.gens
def CE(outer:List Env)(P:Uk)(w:Ul)(H:Hp)(s:Ui)(Q:VK)(u:Uh)(s':Ui):Prop:=
 ∃v a,s'.os=s.os/\AllBare s'.gens/\Un (frs outer) [] H a s.heap s'.heap/\HOk P w a s'.heap/\RelV v u/\Q v a
def CR(CX:CXT)(outer:List Env)(P:Uk)(w:Ul)(H:Hp)(s:Ui)(Q:VK)(E:XK)(r:Result)(s':Ui):Prop:=
 match r with
 | .ok (.ret u)=>CE outer P w H s Q u s'
 | .ok _=>False
 | .error e=>CX outer H s E e s'
structure FnOk(P:Uk)(w:Ul)(K:Ae)(mg:Str->Option Uh)(base:Um)(CX:CXT)(k:Nat)(f:Uj)(fd:FuncData)(ps:LS)(sp:Sp):Prop where
 len:∀vs H Q E,sp vs H Q E->vs.length=ps.length
 run:∀(A:Around) (outer:List Env) (s:Ui) (H:Hp) (args:Args) (us:LW) (vs:LV) (Q:VK) (E:XK),Room k A->Env0 P w K mg base A outer s H->BindsTo s fd args (ps.zip us)->Vals vs us->sp vs H Q E->
  codeAny (model P w) A (.call (.ref f) args) (CR CX outer P w H s Q E) s
def Env0.make{P:Uk}{w:Ul}{K:Ae}{mg:Str->Option Uh}{base:Um}{A:Around}{outer:List Env}{s:Ui}{H:Hp}(e:Env0 P w K mg base A outer s H)(C:Uj)(us:LW)(a:List (Str×Uh)):
  Env0 P w K mg base (A.under (.builtin "type.__call__" (.ref C::us,a))) outer s H:=(by first | show e.frames | (simpa[Around.under,Code.envs,Code.isFrame,pushEnvs] using e.frames),e.mod,e.bs,e.bsz,e.funs,e.frf,e.hok,e.bare)
section
variable{X:Cx}{pins:PLO}{σ:St}{H:Hp}{s s':Ui}
def Inv.env0(I:'v'):Env0 X.prog X.w X.K X.mg X.base X.A X.stack s H:=
 (I.ok.frames,I.ok.mod,I.bs,ni I.ok.bsz I.sz,I.stack,I.stkFree,I.hok,I.bare)
def Inv.after{Q:VK}{u:Uh}(I:'v')(h:CE X.stack X.prog X.w H s Q u s'):EP X pins σ Q u s':=by let(v,k,i,a,f,e,r,q):=h;let(j,g,d,t,c):=s';obtain rfl:c=s.os:=i;show(v,k,I.call (h':=j) (g':=g) (d':=d) (t':=t) (ch:=[]) f e a (λb z=>absurd z 's'),r,q)
end
def Yi3(sp:Sp)(dvs:LV)(E:XK)(t:TA):TE:=λa H Q=>t a H λb c=>sp (b++dvs) c Q E
def Yo(K:Ae)(c:FuncData)(ps:LS)(b:LW):Prop:=
 ∀(s:Ui) (a:LW),K.In s.heap->(a++b).length=ps.length->BindsTo s c (a,[]) (ps.zip (a++b))
def Yo.all{K:Ae}{b:FuncData}{ps:LS}(h:∀us:LW,us.length=ps.length->bindArgs b (us,[])=pure (ps.zip us)):Yo K b ps []:=λs us _ a=>by rw[Hd] at a |-;show .of_eq (h us a)
def Fo(CX:CXT)(X:Cx)(E:XK):Prop:=∀(a:PLO) (c:St) (H:Hp) (s:Ui) (e:Uh) (b:Ui),Inv X a c H s->CX X.stack H s E e b->X.xe e b
section
variable{X:Cx}{CX:CXT}{k:Nat}{f C:Uj}{fd:FuncData}{ps:LS}{sp:Sp}{dvs:LV}{ds:LW}{E:XK}{x m:Str}{p pos apos:Pos}{e o:Expr}{es:List Expr}{ta:TE}{t:TA}
def Y12{pins:PLO}{b:St}{H:Hp}{s:Ui}{Q:VK}{us:LW}{vs:LV}(F:FnOk X.prog X.w X.K X.mg X.base CX k f fd ps sp)(i:Room k X.A)(n:Yo X.K fd ps ds)(l:Vals dvs ds)(g:Fo CX X E)
  (I:Inv X pins b H s) (r:Vals vs us) (h:sp (vs++dvs) H Q E):⇑X (call (.ref f) us) (EP X pins b Q) X.xe s:=by
 have c:Vals (vs++dvs) (us++ds):=r.append l;have j:(us++ds).length=ps.length:=by rw[<-c.length];show F.len _ _ _ _ h
 show Ly (Kw (F.run X.A X.stack s H (us,[]) (us++ds) (vs++dvs) Q E i I.env0 (n s us I.kIn j) c h) λr d a=>?_);cases r with
 | error e=>show g pins b H s e d I a
 | ok q=>
  cases q with
  | ret u=>show I.after a
  | next=>show Dq a
  | brk=>show Dq a
  | cont=>show Dq a
def Yf9(F:FnOk X.prog X.w X.K X.mg X.base CX k f fd ps sp)(j:Room k X.A)(u:Gl X x)(l:X.mg x=↑f)(n:Hm X.K (.ref f)=true)(z:Yo X.K fd ps ds)(y:Vals dvs ds)(i:Fo CX X E)
  (B:PA X (e::es) t) (c:(x==("__debug__":Str))=false:=by decide) (v:starEach (e::es) X.env=#v[false,eval e X.env]::starEach es X.env:=by rfl) (b:(backTo pos (starEach es X.env)).any (·.1)=false:=by rfl):
  PE X (.Call (.Name x p) (e::es) [] pos) (Yi3 sp dvs E t):=by
 intro a s g H Q I h;show Ik (Wh I u l ?_ c);show PySem.W.callWith_K (h₀:=X.base) I.ok.mod.kin n (thn (B pos a s g H _ I h) λG J (D,L,d,r,q)=>(d.kIn,?_)) v b;show Y12 F j z y i d r q
def Zy6(F:FnOk X.prog X.w X.K X.mg X.base CX k f fd ps sp)(d:Room k X.A)(j:Gl X x)(g:X.mg x=↑f)(i:Hm X.K (.ref f)=true)(n:Yo X.K fd ps ds)(l:Vals dvs ds)(c:Fo CX X E)
  (a:(x==("__debug__":Str))=false:=by decide):PE X (.Call (.Name x p) [] [] pos) (Yi3 sp dvs E tNil):=by
 intro b s q H Q I h;show Ik (Wh I j g ?_ a);show PySem.W.callWith_K0 I.kIn i (Y12 (us:=[]) F d n l c I .nil h)
structure Mk(K:Ae)(C f:Uj):Prop where
 makes:PySem.W.makesIn K C=true
 init:Iy K (.ref C) "__init__"=some (↑f)
 fn:PySem.W.isFn K (.ref f)=true
 kp:Hm K (.ref C)=true
end
structure FnScope(N P:LS)(sc:Scope):Prop where
 kind:sc.kind= .function
 co:sc.isCoroutine=false
 gen:sc.isGenerator=false
 nd:N.Nodup
 pre:N.take P.length=P
 par:∀x∈P,sc.names.lookup x=some .local\/sc.names.lookup x=some .cell
 nofree:∀y∈sc.names,y.2≠ .free
def Gz{b:Str->Option NameKind}{x:Str}:∀{a:List (Str×Uh)} {m:Str->Option Uh},(∀v,#v[x,v]∉a)->bindL b a m x=m x
 | [],_,_=>rfl
 |#v[n,v]::r,m,h=>by
  ext bindL;rw[Gz λw c=>h w (An _ c)];split
  .have:x≠n:=by rintro rfl;show h v Aw
   simp[this]
  .rfl
def F9{b:Str->Option NameKind}{x:Str}:∀{a:List (Str×Uh)} {m:Str->Option Uh},(∀v,#v[x,v]∉a)->bindC b a m x=m x
 | [],_,_=>rfl
 |#v[n,v]::r,m,h=>by
  ext bindC;rw[F9 λw c=>h w (An _ c)];split
  .rfl
  .have:x≠n:=by rintro rfl;show h v Aw
   simp[this]
def Ea{a:Str->Option NameKind}{x:Str}{v:Uh}:∀{P:LS} {vs:LW} {i:Nat} {m:Str->Option Uh},P.Nodup->P[i]?=some x->vs[i]?=some v->a x=some .local->
  bindL a (P.zip vs) m x=some v
 | [],_,_,_,_,h,_,_=>by simp at h
 | _::_,[],_,_,_,_,h,_=>by simp at h
 | p::P,w::vs,0,m,d,c,b,e=>by simp at c b;subst c;subst b;change bindL a (#v[p,w]::P.zip vs) m p=_;ext bindL;rw[Gz λv f=>(Hq.mp d).1 (List.of_mem_zip f).1,ng e];simp
 | p::P,w::vs,i+1,m,d,c,b,e=>by change bindL a (#v[p,w]::P.zip vs) m x=_;ext bindL;show Ea (i:=i) (Hq.mp d).2 ↥c ↥b e
def Fa{a:Str->Option NameKind}{x:Str}{v:Uh}:∀{P:LS} {vs:LW} {i:Nat} {m:Str->Option Uh},P.Nodup->P[i]?=some x->vs[i]?=some v->a x≠some .local->
  bindC a (P.zip vs) m x=some v
 | [],_,_,_,_,h,_,_=>by simp at h
 | _::_,[],_,_,_,_,h,_=>by simp at h
 | p::P,w::vs,0,m,d,c,b,e=>by simp at c b;subst c;subst b;change bindC a (#v[p,w]::P.zip vs) m p=_;ext bindC;rw[F9 λv f=>(Hq.mp d).1 (List.of_mem_zip f).1,nc e];simp
 | p::P,w::vs,i+1,m,d,c,b,e=>by change bindC a (#v[p,w]::P.zip vs) m x=_;ext bindC;show Fa (i:=i) (Hq.mp d).2 ↥c ↥b e
def start(N:LS)(vs:LV):St:=vs.map some++Hn (N.length - vs.length) none
def cxOf(CX:CXT)(P:Uk)(w:Ul)(K:Ae)(mg:Str->Option Uh)(base:Um)(N:LS)(qual:Str)(scope:Scope)(f:Uj)(cd:Uh)(A:Around)(outer:List Env)(s:Ui)(H:Hp)(E:XK):Cx where
 prog:=P
 w:=w
 K:=K
 mg:=mg
 base:=base
 A:=A.deeper (envOfC qual scope s⁻¹ f cd)
 N:=N
 s₀:=s
 H₀:=H
 env:=envOfC qual scope s⁻¹ f cd
 outer:=outer
 stack:=envOfC qual scope s⁻¹ f cd::outer
 ex:=[]
 calm:=true
 fn:=λ_=>true
 pn:=[]
 xe:=λe b=>wpAny (model P w) (A.deeper (envOfC qual scope s⁻¹ f cd)) (leaving (envOfC qual scope s⁻¹ f cd) e) (λ_ a=>CX outer H s E e a) (λc a=>CX outer H s E c a) b
def Z12{a:Scope}{n:Nat}{x:Str}(h:a.names.lookup x=some .cell):∃c,(cellsFrom n a.names []).lookup x=some c:=by have q:=PySem.W.cellsFrom_some a.names n [] (.inl h);show Option.isSome_iff_exists.mp q
def Zk3{CX:CXT}{P:Uk}{w:Ul}{K:Ae}{mg:Str->Option Uh}{base:Um}{N ps:LS}{qual:Str}{scope:Scope}{f:Uj}{cd:Uh}{A:Around}{outer:List Env}{s C:Ui}{H:Hp}{E:XK}{us:LW}{vs:LV}
  (S:FnScope N ps scope) (J:A.handled=none) (g:Env0 P w K mg base A outer s H) (O:vs.length=ps.length) (r:Vals vs us)
  (x:InCallC s s⁻¹ (bindL (envOfC qual scope s⁻¹ f cd).kindOf (ps.zip us) λ_=>none) (cellsFrom (s⁻¹+1) scope.names []) (bindC (envOfC qual scope s⁻¹ f cd).kindOf (ps.zip us) λ_=>none) C):
  Inv (cxOf CX P w K mg base N qual scope f cd A outer s H E) [] (start N vs) H C:=by
 have I:ps.length<=N.length:=by have:=congrArg Ug S.pre;rw[Hz] at this;lia
 let(B,M,rfl,F):=x.done;have j:∀b:Uj,b∉(cxOf CX P w K mg base N qual scope f cd A outer s H E).ex:=λb z=>absurd (show b∈([]:List Uj) from z) 's';show((g.mod,S.kind,rfl,rfl,na _,λy z c B d=>?_,λy l=>?_,λy c _ h=>?_,λ_=>J,Around.frames_deeper g.frames,.inr (rfl,rfl),λb z=>absurd z (j b),g.bs,g.bsz,λb _ _=>j b,λb z=>absurd z (j b),g.funs,g.frf),
  rfl,g.bare,Un.kept F,(_,x.toInCall.ns,λi y v B d Q=>?_),λy c h=>(_,x.cell y c h),g.hok.fresh (na _),λy c h=>?_,λp o=>absurd (show p∈([]:PLO) from o) 's',g.hok.kept F,?_)
 .show name_of_addr x.apart (Mh B) (Mh d)
 .have l:scope.names.lookup y=some .cell\/scope.names.lookup y=some .free:=l;rcases l with l|l
  .show Z12 l
  .show absurd rfl (S.nofree _ (Mh l))
 .show mf (x.above y c (Mh h))
 .have t:i<vs.length:=by
   ext d start;by_cases t:i<vs.length
   .show t
   .rw[Dg ↥t] at d;rw[List.getElem?_replicate] at d;split at d<;>cases d
  have L:vs[i]?=some v:=by
   ext d start;rw[De ↥t,Ch] at d;cases e:vs[i]? with
   | none=>rw[e] at d;cases d
   | some a=>rw[e] at d;cases d;rfl
  let(u,D,G):=r.get L;have o:ps[i]?=some y:=by rw[<-S.pre,List.getElem?_take_of_lt 'o'];show B
  have m:ps.Nodup:=by rw[<-S.pre];show S.nd.sublist (List.take_sublist _ _)
  show(u,G,?_);rcases S.par y (Am o) with k|k
  .show .inl (k,Ea m o D k)
  .let(c,e):=Z12 (n:=s⁻¹+1) k;show .inr (.inl k,c,e,?_);have q:=x.cell y c e;rw[Fa m o D (by change scope.names.lookup y≠_;rw[k];decide)] at q;show q
 .show g.hok.fresh (mf (x.above y c (Mh h)))
 .unfold start;change _=N.length;rw[Ag,Ai,List.length_replicate];lia
def Zz9{CX:CXT}{P:Uk}{w:Ul}{K:Ae}{mg:Str->Option Uh}{base:Um}{k:Nat}{f:Uj}{name qual:Str}{c:Arguments}{body:List Stmt}{scope:Scope}{U T B R a X oc:Uh}{Z od:Option Uj}
  {F:Array (Option Uh)} {N ps:LS} {sp:Sp} (lk:K.lookup f=some (oc,od,.func (Kv name qual c body scope U T B R Z a X),F)) (M:Mb K a qual=true) (S:FnScope N ps scope)
  (l:∀vs H Q E,sp vs H Q E->vs.length=ps.length)
  (i:∀(A:Around) (outer:List Env) (s:Ui) (H:Hp) (vs:LV) (Q:VK) (E:XK),Room k (A.deeper (envOfC qual scope s⁻¹ f a))->sp vs H Q E->
   ∃t,PSs (cxOf CX P w K mg base N qual scope f a A outer s H E) body t/\t {nx:=λ_ g=>Q .non g,rt:=Q} (start N vs) H):
  FnOk P w K mg base CX (k+1) f (Kv name qual c body scope U T B R Z a X) ps sp:=by
 show(l,λA outer s H Y us vs Q E L z hb r m=>?_);have hl:=l _ _ _ _ m;have KX:K.In s.heap:=z.mod.kin.keeps λb o e=>(z.bs b o e).1;have G:s.heap.NoLimit:=z.mod.nolimit.keeps λb o e=>(z.bs b o e).1;have h:∀y∈ps.zip us,scope.names.lookup y.1=some .local\/(scope.names.lookup y.1=some .cell/\((cellsFrom (s⁻¹+1) scope.names []).lookup y.1).isSome=true):=λzy2 hy=>by
  let(n,v):=zy2;rcases S.par n (List.of_mem_zip hy).1 with q|q
  .show .inl q
  .show .inr (q,PySem.W.cellsFrom_some _ _ _ (.inl q))
 show codeAny_call_function L.depth (KX _ _ lk) rfl S.co S.gen rfl (PySem.W.codeRec_of KX M) (hb _ _ _ _ ?_);show wpAny_newFunctionEnv_cells S.kind h λz0 he O x=>?_;subst he;show(G.keeps x.toInCall.keep,codeAny_func ?_);let(t,ht,hq):=i A outer s H vs Q E (L.deeper _) m;have I:Inv (cxOf CX P w K mg base N qual scope f a A outer s H E) [] (start N vs) H O:=Zk3 S L.hd z hl r x;show Hl (ht [] O (start N vs) H _ I hq) (λfl C j=>?_) λe C j=>j;have p:∀{d:St} {g:Hp} {v:V} {u:Uh},Inv (cxOf CX P w K mg base N qual scope f a A outer s H E) [] d g C->RelV v u->Q v g->CE outer P w H s Q u C:=
  fun{d g v u} J D q=>(v,g,J.os,J.bare,J.base,J.hok,D,q)
 cases fl with
 | ret u=>let(v,d,g,J,D,q):=j;show p J D q
 | next=>let(d,g,J,q):=j;show p (v:=V.non) (u:=Value.none) J rfl q
 | brk=>let(_,_,_,q):=j;show Dq q
 | cont=>let(_,_,_,q):=j;show Dq q
section
variable{X:Cx}{x:Str}{p pos:Pos}{e:Expr}{es:List Expr}{t:TA}{id T:String}{r:LV->Hp->VK->Prop}
def tCB(r:LV->Hp->VK->Prop)(t:TA):TE:=λa H Q=>t a H λb c=>r b c Q
def G6(u:Xm X (.builtin id) r)(o:Gl X x)(n:X.mg x=none)(l:bootBuiltins x=some (.builtin id))(v:PA X (e::es) t)(m:x≠"__name__":=by decide)(c:(x==("__debug__":Str))=false:=by decide)
  (q:starEach (e::es) X.env=#v[false,eval e X.env]::starEach es X.env:=by rfl) (b:(backTo pos (starEach es X.env)).any (·.1)=false:=by rfl):PE X (.Call (.Name x p) (e::es) [] pos) (tCB r t):=by
 intro a s d H Q I h;show Ik (Ol I o n l ?_ m c);show PyProof.Rows.callWith_builtin1 (thn (v pos a s d H _ I h) λg i zz=>by let(f,y,w,j,k):=zz;show u a i d y f g Q w j k) q b
def Wp(u:Xm X (.type T) r)(o:Gl X x)(n:X.mg x=none)(l:bootBuiltins x=some (.type T))(v:PA X (e::es) t)(m:x≠"__name__":=by decide)(c:(x==("__debug__":Str))=false:=by decide)
  (q:starEach (e::es) X.env=#v[false,eval e X.env]::starEach es X.env:=by rfl) (b:(backTo pos (starEach es X.env)).any (·.1)=false:=by rfl):PE X (.Call (.Name x p) (e::es) [] pos) (tCB r t):=by
 intro a s d H Q I h;show Ik (Ol I o n l ?_ m c);show PyProof.Rows.callWith_type1 (thn (v pos a s d H _ I h) λg i zz=>by let(f,y,w,j,k):=zz;show u a i d y f g Q w j k) q b
end
end L2
namespace HT
open PySem PyProof.Rows
section
open PySem.SeqAt
open PySem.AutoSeq1 (wpAny_loadPart')
open PySem.MeetsSeq PySem.MeetsSeq2 PySem.MeetsSeq3
end
section
variable{prog:Uk}{w:Ul}{A:Around}{E:VSP}{s:Ui}
def Y46{t b:Uj}{vs a:LW}(y:IsTup s.heap t vs.toArray)(z:IsTup s.heap b a.toArray)(p:vs≠[])
  (C:a=[]->Q (.ref t) s) (B:a≠[]->Q (.ref s⁻¹) {s with heap:=s.heap.push {cls:= .type "tuple",data:= .seq (vs++a).toArray}})
  (k:vs.length+a.length<=sizeLine):wpAny (model prog w) A (binaryOp .Add (.ref t) (.ref b)) Q E s:=by
 let((D,u,v,m),j,r,n,q):=id y;let((x,h,l,d),c,g,o,f):=id z;simp only at r q g f;subst r q g f;have e:vs.toArray++a.toArray=(vs++a).toArray:=by simp
 by_cases i:a=[]
 .show concat_meets (_,j,rfl) (_,c,rfl) noFill_tuple_add seq_tuple_add PySem.F.slot_tuple_add PySem.F.entry_tuple_add (PySem.F.args_tuple_add_2 _ _)
   (tuple_addW1 t b vs.toArray a.toArray n o u h m d ↥p (by simp[i])) (j,c,C i)
 .refine concat_meets (_,j,rfl) (_,c,rfl) noFill_tuple_add seq_tuple_add PySem.F.slot_tuple_add PySem.F.entry_tuple_add (PySem.F.args_tuple_add_2 _ _)
   (tuple_addW2 t b vs.toArray a.toArray n o u h m d ↥p ↥i (by rw[Aq,Aq];show k)) (j,c,?_)
  rw[e];show B i
def sIx(n d:Nat):Option Int->Nat
 | none=>d
 | some v=>if v<0 then(v+(n:Int)).toNat else min v.toNat n
def Yq7(n d:Nat)(b:d<=n)(o:Option Int):sIx n d o<=n:=by
 cases o with
 | none=>show b
 | some v=>
  show(if v<0 then(v+(n:Int)).toNat else min v.toNat n)<=n;by_cases a:v<0
  .rw[ng a];lia
  .rw[nc a];show Nat.min_le_right _ _
def Zl4(v:Int)(n d:Nat):(if v<0 then max (v+(n:Int)) 0 else min v (n:Int))=((sIx n d (some v):Nat):Int):=by
 show(if v<0 then max (v+(n:Int)) 0 else min v (n:Int))=(((if v<0 then(v+(n:Int)).toNat else min v.toNat n):Nat):Int);by_cases a:v<0
 .simp only[if_pos a];lia
 .simp only[if_neg a];lia
def Z93(lo hi:Option Int)(n:Nat):Builtin.Slice.sliceAdjust lo hi 1 (n:Int)=#v[((sIx n 0 lo:Nat):Int),((sIx n n hi:Nat):Int)]:=by
 have h1:¬((1:Int)<0):='o';ext Builtin.Slice.sliceAdjust;erw[h1,if_false];show Prod.ext ?_ ?_
 .cases lo with
  | none=>rfl
  | some v=>show Zl4 v n 0
 .cases hi with
  | none=>rfl
  | some v=>show Zl4 v n n
def Z65(i j:Nat):Lz (i:Int) (j:Int) 1=j - i:=by ext Lz;have a:(1:Int) >0:='o';erw[a,if_true,Int.ediv_one];split<;>lia
def Nh{v:Uh}{o:Option Int}(p:IsPart v o)(h:Q o s):wpAny (model prog w) A (Builtin.Slice.slicePartIndex v) Q E s:=by
 cases p with
 | none=>show slicePart_none h
 | int i t=>show slicePart_int h
def We{sl:Uj}{vl vu:Uh}{lo hi:Option Int}{n:Nat}{Q:Int×Int×Nat->Ui->Prop}(hs:s.heap.IsSliceOf sl vl vu .none)(pl:IsPart vl lo)(pu:IsPart vu hi)
  (h:Q #v[((sIx n 0 lo:Nat):Int),1,sIx n n hi - sIx n 0 lo] s):wpAny (model prog w) A (Builtin.Slice.sliceApplied (.ref sl) (pure (n:Int))) Q E s:=by
 let(os,hos,hcs,hds):=id hs;unfold Builtin.Slice.sliceApplied Builtin.Slice.sliceFields;show Ac (Ac (Ub hos hds (x:=vl) rfl (Ac (Ub hos hds (x:=vu) rfl (Ac (Ub hos hds (x:= .none) rfl (Ao ?_)))))));show Ac (slicePart_none ?_);change wpAny _ _ (if ((1:Int)==0)=true then _ else _) _ _ s;rw[nc 'd'];show Ac (Nh pl (Ac (Nh pu (Ac (Ao ?_)))));change wpAny _ _ (match Builtin.Slice.sliceAdjust lo hi 1 (n:Int) with | #v[lo,hi]=>pure #v[lo,(1:Int),Lz lo hi 1]) _ _ s;rw[Z93 lo hi n];change wpAny _ _ (pure #v[((sIx n 0 lo:Nat):Int),(1:Int),Lz ((sIx n 0 lo:Nat):Int) ((sIx n n hi:Nat):Int) 1]) _ _ s;rw[Z65];show Ao h
def Zy9(xs:Array Uh)(i k:Nat):((Aj k).filterMap fun(m:Nat)=>xs[((i:Int)+(m:Int) * 1).toNat]?).toArray=((xs.toList.drop i).take k).toArray:=by
 have e:(fun(m:Nat)=>xs[((i:Int)+(m:Int) * 1).toNat]?)=λm=>xs[i+m]?:=by funext m;have:((i:Int)+(m:Int) * 1).toNat=i+m:='o';rw[this]
 rw[e];have:=pick_run xs i k;rw[List.filterMap_map] at this;have a:((λx=>xs[x]?) ∘ λx=>i+x)=λm=>xs[i+m]?:=rfl;rw[a] at this;rw[this]
def S9{t sl:Uj}{items:Array Uh}{vl vu:Uh}{lo hi:Option Int}{Q:VSP}(ht:IsTup s.heap t items)(hs:s.heap.IsSliceOf sl vl vu .none)(pl:IsPart vl lo)(pu:IsPart vu hi)
  (hw:¬(sIx items.size 0 lo=0/\sIx items.size items.size hi=items.size))
  (h:Q (.ref s⁻¹) {s with heap:=s.heap.push {cls:= .type "tuple",data:= .seq ((items.toList.drop (sIx items.size 0 lo)).take (sIx items.size items.size hi - sIx items.size 0 lo)).toArray}})
  (hsz:items.size<=sizeLine):wpAny (model prog w) A (getItem (.ref t) (.ref sl)) Q E s:=by
 have htake:sizeOk (.seq ((items.toList.drop (sIx items.size 0 lo)).take (sIx items.size items.size hi - sIx items.size 0 lo)).toArray):=by show((items.toList.drop (sIx items.size 0 lo)).take (sIx items.size items.size hi - sIx items.size 0 lo)).toArray.size<=sizeLine;rw[Aq,Hz,List.length_drop,Ir];lia
 have hj:sIx items.size items.size hi<=items.size:=Yq7 _ _ (na _) hi;let(os,hos,hcs,hds):=id hs;have hTs:s.TypeIs (.ref sl) "slice":=(os,hos,hcs);ext getItem
 try with_reducible show Ka ?_
 first | show Ac (Ao ?_) | skip
 show Ac (wpAny_sequenceKey ht.typeIs 'd' ?_);show Ac (wpAny_callSpecial?_slot (name:=Str.ofString "__getitem__") ht.typeIs Ix
  (wpAny_call_entry Ix ht.typeIs entry_tuple_getitem ?_ (args_tuple_getitem _ _)))
 change wpAny _ _ (Builtin.Tuple.tupleItemsOf (.ref t) >>=_) _ _ s;show Ac (tupleItemsOf_ ht ?_);show Ac (wpAny_typeOf hTs ?_);rw[ng 'd'];show Ac (We hs pl pu ?_);have hno:¬((((sIx items.size 0 lo:Nat):Int)==0&&(1:Int)==1&&(sIx items.size items.size hi - sIx items.size 0 lo)==items.size)=true):=by intro q;rw[Bz9,Bz9] at q;have q1:((sIx items.size 0 lo:Nat):Int)=0:=Ll q.1.1;have q2:sIx items.size items.size hi - sIx items.size 0 lo=items.size:=Ll q.2;show hw ('o','o')
 change wpAny _ _ (if (((sIx items.size 0 lo:Nat):Int)==0&&(1:Int)==1&&(sIx items.size items.size hi - sIx items.size 0 lo)==items.size)=true then _ else _) _ _ s;rw[nc hno,Zy9]
 first
  | show Ac (m:=Md _) (Kz (Ao (_,rfl,Ao h)) htake)
  | show Ac (m:=Md _) (Kz (Ac (Ao (Ao (_,rfl,Ao h)))) htake)
  | show Ac (Ac (m:=Md _) (Kz (Ao (Ao (_,rfl,Ao h))) htake))
  | show Ac (Ac (m:=Md _) (Kz (Ao (_,rfl,Ao h)) htake))
end
end HT
namespace L2
open PySem PySem.Spec PyProof.Rows
abbrev TO:=St->Hp->(Option Int->Hp->Prop)->Prop
def PO(X:Cx)(e:Option Expr)(t:TO):Prop:=
 ∀(a:PLO) (s:Ui) (b:St) (H:Hp) (Q:Option Int->Hp->Prop),Inv X a b H s->t b H Q->
  ⇑X (evalPart e X.env) (λu d=>∃o c,Inv X a b c d/\IsPart u o/\Q o c) X.xe s
def Yb3:TO:=λ_ H Q=>Q none H
def Yt0(t:TE):TO:=λa H Q=>t a H λx b=>∃i,x= .int i/\Q (some i) b
def Z59{a:List Int}:∀{us:LW},Vals (a.map V.int) us->IntsAre us a:=by
 induction a with
 | nil=>intro us r;rw[Dh] at r;cases r;show .nil
 | cons n a d=>
  intro us r;rw[Az] at r;cases r with
  | cons c b=>let(t,e):=c;subst e;show .cons n t (d b)
section
variable{X:Cx}{e:Expr}{te:TE}{lo hi:Option Expr}{tl th:TO}{pos p2:Pos}
def Y95:PO X none Yb3:=by intro a s b H Q I h;rw[evalPart_none];show Ao (none,H,I,.none,h)
def Zg2(h:PE X e te):PO X (some e) (Yt0 te):=by intro a s b H Q I f;rw[evalPart_some];show thn (h a s b H _ I f) λu k zz=>?_;let(x,j,g,c,d):=zz;let(i,rfl,q):=d;let(t,rfl):=c;show(some i,j,g,.int i t,q)
def SlR(X:Cx)(r:V->Option Int->Option Int->Hp->VK->Prop):Prop:=
 ∀(a:PLO) (s:Ui) (b:St) (H:Hp) (x:V) (v d c:Uh) (lo hi:Option Int) (f:Uj) (Q:VK),Inv X a b H s->RelV x v->s.heap.IsSliceOf f d c .none->IsPart d lo->IsPart c hi->r x lo hi H Q->
  ∃T id,typeLookup (.type T) "__getitem__"=pure (some (.builtin id))/\s.TypeIs v T/\⇑X (getItem v (.ref f)) (EP X a b Q) X.xe s
def tSl(r:V->Option Int->Option Int->Hp->VK->Prop)(te:TE)(tl th:TO):TE:=λa H Q=>te a H λx d=>tl a d λl c=>th a c λu b=>r x l u b Q
def Bv(C:SlR X r)(F:PE X e te)(D:PO X lo tl)(z:PO X hi th):PE X (.Subscript e (.Slice lo hi none p2) pos) (tSl r te tl th):=by intro a s d H Q I h;show Subscript_ (thn (F a s d H _ I h) λv k zz=>?_);let(x,O,M,m,p):=zz;show wpAny_Slice (thn (D a k d O _ M p) λg j (l,N,L,y,o)=>thn (z a j d N _ L o) λf c zz=>?_);let(u,i,K,t,n):=zz;rw[evalPart_none];show Ao ?_;have J:Inv X a d i {c with heap:=c.heap.push {cls:= .type "slice",data:= .fields #[g,f,.none]}}:=K.kept (t':=c.toks) λb P q=>Ah _ q;let(T,id,G,B,E):=C a {c with heap:=c.heap.push {cls:= .type "slice",data:= .fields #[g,f,.none]}} d i x v g f l u c⁻¹ Q J m (Heap.IsSliceOf.new ..) y t n;change ⇑X (subscriptTail e (.Slice lo hi none p2) v (.ref c⁻¹)) (EP X a d Q) X.xe {c with heap:=c.heap.push {cls:= .type "slice",data:= .fields #[g,f,.none]}};show tail_any (ops:=[.ref c⁻¹,v]) B G E (by with_unfolding_all rfl)
def cutV(xs:LV)(lo hi:Option Int):LV:=(xs.drop (HT.sIx xs.length 0 lo)).take (HT.sIx xs.length xs.length hi - HT.sIx xs.length 0 lo)
def Qd(xs:LV)(lo hi:Option Int):(cutV xs lo hi).length<=xs.length:=by ext cutV;rw[Hz,List.length_drop];lia
def rSlT(K:Ae):V->Option Int->Option Int->Hp->VK->Prop:=λx lo hi H Q=>∃a b,x= .ref a/\SqT K H a b/\
 ¬(HT.sIx b.length 0 lo=0/\HT.sIx b.length b.length hi=b.length)/\∀p,H p=none->Q (.ref p) (upd H p (.tup (cutV b lo hi)))
def Y25:SlR X (rSlT X.K):=by
 intro g s u H x v y w lo hi z Q I k t m l h;let(a,d,rfl,n,p,q):=h;cases k;let(f,r,j,i):=I.tuple n;have c:f.toArray.size=d.length:=by rw[Aq];show r.length.symm
 show("tuple",_,Ix.lookup,j.typeIs,?_);show HT.S9 j t m l (by rw[c];show p) ?_ (by rw[c];show i);rw[c];show(.ref s⁻¹,_,I.laid (t':=s.toks) (o:= .tup (cutV d lo hi)) (λb A q=>Ah _ q) (na _) ?_,rfl,q _ (I.hok.fresh (na _)));show(ni (Qd d lo hi) i,_,(r.drop (HT.sIx d.length 0 lo)).take (HT.sIx d.length d.length hi - HT.sIx d.length 0 lo),IsTup.new _ _)
def Yv6(K:Ae):R2:=λx y H Q=>∃a b d c,x= .ref a/\y= .ref b/\SqT K H a d/\SqT K H b c/\d≠[]/\d.length+c.length<=sizeLine/\
 (c=[]->Q (.ref a) H)/\(c≠[]->∀p,H p=none->Q (.ref p) (upd H p (.tup (d++c))))
def Vals.nil_iff(r:Vals xs us):us=[]↔xs=[]:=by
 cases r with
 | nil=>simp
 | cons _ _=>simp
def Y72:OpR X (binaryOp .Add) (Yv6 X.K):=by intro f s D H x y v u Q I m l h;let(a,b,k,j,rfl,rfl,C,B,A,i,p,n):=h;cases m;cases l;let(t,d,r,_):=I.tuple C;let(g,c,p2,_):=I.tuple B;show HT.Y46 r p2 (λz=>A (d.nil_iff.mp z)) (λz=>(.ref a,H,I,rfl,p (c.nil_iff.mp z))) (λz=>?_) (by rw[<-d.length,<-c.length];show i);show(.ref s⁻¹,_,I.laid (t':=s.toks) (o:= .tup (k++j)) (λb E q=>Ah _ q) (na _) ?_,rfl,n (λw=>z (c.nil_iff.mpr w)) _ (I.hok.fresh (na _)));show(by rw[Ag];show i,_,d.append c,IsTup.new _ _)
end
def ixN(n:Nat)(i:Int):Option Nat:=if 0<=i then(if i<n then some i.toNat else none) else if -(n:Int)<=i then some (i+n).toNat else none
def atI{a:Type}(xs:List a)(i:Int):Option a:=(ixN xs.length i).bind λj=>xs[j]?
def Zj1{n:Nat}{i:Int}(h:ixN n i=some j):seqIndex? i n=some j/\j<n/\ -(n:Int)<=i/\i<n:=by
 ext h ixN;by_cases b:0<=i
 .rw[ng b] at h;by_cases a:i<n
  .rw[ng a] at h;have e:i.toNat=j:=Hb h;show(by rw[seqIndex_of b a,e],'o','o',a)
  .rw[nc a] at h;cases h
 .rw[nc b] at h;by_cases a:-(n:Int)<=i
  .rw[ng a] at h;have e:(i+n).toNat=j:=Hb h;show(by rw[seqIndex_neg 'o' a,e],'o',a,'o')
  .rw[nc a] at h;cases h
def Co{a:Type}{xs:List a}{i:Int}{v:a}(h:atI xs i=some v):∃j,seqIndex? i xs.length=some j/\xs[j]?=some v/\j<xs.length/\ -(xs.length:Int)<=i/\i<xs.length:=by
 ext h atI;cases e:ixN xs.length i with
 | none=>rw[e] at h;cases h
 | some j=>rw[e] at h;let(f,d,c,b):=Zj1 e;show(j,f,h,d,c,b)
def Vx{a:Type}{xs:List a}{j:Nat}{v:a}(h:xs[j]?=some v):atI xs (j:Int)=some v:=by
 have b:j<xs.length:=(Ab.mp h).1;have e:ixN xs.length (j:Int)=some j:=by ext ixN;rw[ng 'o',ng 'o'];simp
 ext atI;rw[e];show h
def Z29{a:Type}(xs:List a)(v:a):atI (xs++[v]) (-1)=some v:=by
 have b:(xs++[v]).length=xs.length+1:=by simp
 have e:ixN (xs++[v]).length (-1)=some xs.length:=by ext ixN;rw[b,nc 'd',ng 'o'];congr 1;lia
 ext atI;rw[e];show(xs++[v])[xs.length]?=some v;simp
def Zo9(b:Expr):Prop:=∀o i,subscripted b false o i=operate [o,i] (getItem o i)
def IxR(X:Cx)(r:R2):Prop:=
 ∀(c a:Expr) (b:PLO) (s:Ui) (d:St) (H:Hp) (x y:V) (v u:Uh) (Q:VK),Inv X b d H s->RelV x v->RelV y u->r x y H Q->
  subscripted a false v u=operate [v,u] (getItem v u)->⇑X (subscriptTail c a v u) (EP X b d Q) X.xe s
def MtR(X:Cx)(id:String)(r:V->LV->Hp->VK->Prop):Prop:=
 ∀(a:PLO) (s:Ui) (b:St) (H:Hp) (x:V) (c:LV) (v:Uh) (d:LW) (Q:VK),Inv X a b H s->RelV x v->Vals c d->r x c H Q->
  ⇑X (call (.builtin id) (v::d)) (EP X a b Q) X.xe s
section
variable{X:Cx}{a b:Expr}{ta tb:TE}{pos:Pos}
def Yv9(j:IxR X r)(l:PE X a ta)(k:PE X b tb)(i:Zo9 b):PE X (.Subscript a b pos) (tOp r ta tb):=by intro c s d H Q I h;show Subscript_ (binT l k I h λv u e x y n m g f q=>j a b c e d n x y v u Q m g f q (i _ _))
def rIxL(K:Ae):R2:=λx y H Q=>∃p c i v,x= .ref p/\y= .int i/\SqL K H p c/\atI c i=some v/\Q v H
def rIxT(K:Ae):R2:=λx y H Q=>∃p c i v,x= .ref p/\y= .int i/\SqT K H p c/\atI c i=some v/\Q v H
def rIxS:R2:=λx y H Q=>∃z i c,x= .str z/\y= .int i/\z.length<=sizeLine/\atI z.cps.toList i=some c/\Q (.str ⟨#[c]⟩) H
def Y75:IxR X (rIxL X.K):=by
 intro f g c s o H x y v u Q I F E h A;let(p,P,i,z,rfl,rfl,G,L,q):=h;cases F;let(t,rfl):=E;let(m,r,l,R):=I.list G;let(j,e,O,T,N,M):=Co L;let(w,C,k):=r.get O;have J:=r.length;have S:=Tu;have d:EP X c o Q w s:=(z,H,I,k,q);by_cases B:0<=i
 .have n:i.toNat=j:=by rw[seqIndex_of B M] at e;show Hb e
  show item_listR l.isList B 'o' (by rw[n];simpa using C) d A
 .have n:(i+(m.toArray.size:Int)).toNat=j:=by rw[seqIndex_neg 'o' N] at e;rw[Aq,<-J];show Hb e
  show subscriptTail_builtinR (x:=w) l.isList.typeIs slot_list_getitem.lookup
   (wpAny_getItem_list_neg (Q:=λr D=>r=w/\EP X c o Q r D) l.isList 'o' (by rw[Aq]<;>lia) 'o' (by rw[n];simpa using C) (rfl,d)) A
def Y37:IxR X (rIxT X.K):=by
 intro d e c s k H x y v u Q I o n h B;let(p,L,i,z,rfl,rfl,C,E,q):=h;cases o;let(t,rfl):=n;let(A,r,l,M):=I.tuple C;let(j,G,F,R,P,O):=Co E;let(w,J,f):=r.get F;have D:=r.length;have N:=Tu;have g:EP X c k Q w s:=(z,H,I,f,q);show subscriptTail_builtinR (x:=w) l.typeIs slot_tuple_getitem.lookup
  (getItem_tuple (j:=j) (Q:=λr m=>r=w/\EP X c k Q r m) l 'o' 'o' (by rw[Aq,<-D];show G) ↥J (rfl,g)) B
def Ym8:IxR X rIxS:=by
 intro d e f s C H x y v u Q I l k h m;let(z,i,c,rfl,rfl,E,o,q):=h;let(t,rfl):=l;let(D,rfl):=k;let(j,g,w,G,r,p):=Co o;have n:z.cps.toList.length=z.length:=by simp[Str.length]
 rw[n] at g r p;have F:=Tu;show tail_any (typeIs_str s z t) slot_str_getitem.lookup (getItem_str (c:=c) (by
  have B:decide (i< -(2 ^ 63:Int))=false:=mm 'o';have A:decide (i >= 2 ^ 63)=false:=mm 'o';rw[B,A,Bool.or_false]) (by rw[g];simpa using w) (.str ⟨#[c]⟩,H,I.tok _,(_,rfl),q)) m
def Z72(its:LW)(n j:Nat)(u:Uh):Ma (·.setIfInBounds j u) {cls:= .type "list",data:= .seq its.toArray n}={cls:= .type "list",data:= .seq (its.set j u).toArray n}:=by simp[Ma]
def Inv.lst{pins:PLO}{c:St}{H:Hp}{s:Ui}{p:Uj}{xs:LV}(I:Inv X pins c H s)(h:H p=some (.lst xs)):
  ∃(its:LW) (n:Nat),Vals xs its/\s.heap.get? p=some {cls:= .type "list",data:= .seq its.toArray n}/\xs.length<=sizeLine:=by
 let(z,its,n,r,e):=I.hok p _ h;show(its,n,r,e,z)
def Inv.lstUpd{pins:PLO}{c:St}{H:Hp}{s:Ui}{p:Uj}{xs ys:LV}{its its':LW}{n n':Nat}{f:Obj->Obj}(I:Inv X pins c H s)(h:H p=some (.lst xs))
  (i:s.heap.get? p=some {cls:= .type "list",data:= .seq its.toArray n}) (d:f {cls:= .type "list",data:= .seq its.toArray n}={cls:= .type "list",data:= .seq its'.toArray n'}) (r:Vals ys its') (g:ys.length<=sizeLine) (t:Nat):
  Inv X pins c (upd H p (.lst ys)) {s with heap:=s.heap.update p f,toks:=t}:=by
 have e:(s.heap.update p f).get? p=some {cls:= .type "list",data:= .seq its'.toArray n'}:=by rw[Iu f i (by rw[d]<;>rfl),d]
 show I.write (x:=p) (e:=p) (by rw[h];trivial) (.inl rfl) (λb u j q=>(Ie _ _ (Il j)).trans q) (_,e) ?_;show(g,its',n',r,e)
def Yp2:V->V->V->Hp->(Hp->Prop)->Prop:=λo i v H Q=>∃p c k j,o= .ref p/\i= .int k/\H p=some (.lst c)/\ixN c.length k=some j/\Q (upd H p (.lst (c.set j v)))
def Zt6:PSet X Yp2:=by
 intro c s A H o i v J K u Q I D E C h;let(p,B,k,j,rfl,rfl,m,G,q):=h;cases D;let(t,rfl):=E;let(d,n,r,f,F):=I.lst m;let(e,M,x,w):=Zj1 G;have g:=r.length;have L:=Tu;have z:Inv X c A (upd H p (.lst (B.set j v))) {s with heap:=s.heap.update p (Ma (·.setIfInBounds j u))}:=
  I.lstUpd m f (Z72 d n j u) (r.set C j) (by rw[List.length_set];show F) s.toks
 by_cases y:0<=k
 .have l:k.toNat=j:=by rw[seqIndex_of y w] at e;show Hb e
  show PySem.W.ki_setAt f y 'o' (by rw[Aq,<-g];show w) (by rw[l];show(_,z,q))
 .have l:(k+(d.toArray.size:Int)).toNat=j:=by rw[seqIndex_neg 'o' x] at e;rw[Aq,<-g];show Hb e
  show PySem.W.ki_setBack f 'o' (by rw[Aq,<-g];show x) 'o' (by rw[l];show(_,z,q))
def Gf(lo hi:Option Int)(n:Nat):(sliceBounds lo hi none n).1=((HT.sIx n 0 lo:Nat):Int)/\(sliceBounds lo hi none n).2.1=((HT.sIx n n hi:Nat):Int)/\(sliceBounds lo hi none n).2.2=1:=by
 show(?_,?_,rfl)
 .cases lo with
  | none=>simp[sliceBounds,HT.sIx]
  | some i=>
   erw[sliceBounds,HT.sIx,Option.getD_none,show(1:Int) >0 by decide,if_true];by_cases h:i<0
   .simp only[h,if_true]<;>lia
   .simp only[h,if_false]<;>lia
 .cases hi with
  | none=>simp[sliceBounds,HT.sIx]
  | some i=>
   erw[sliceBounds,HT.sIx,Option.getD_none,show(1:Int) >0 by decide,if_true];by_cases h:i<0
   .simp only[h,if_true]<;>lia
   .simp only[h,if_false]<;>lia
def Jq(its:LW)(lo hi:Option Int):slicePick its.toArray lo hi none=((its.drop (HT.sIx its.length 0 lo)).take (HT.sIx its.length its.length hi - HT.sIx its.length 0 lo)).toArray:=by let(e,d,c):=Gf lo hi its.toArray.size;ext slicePick;rw[e,d,c];erw[sliceRange_one,pick_run,Aq]<;>rfl
def rSlL(K:Ae):V->Option Int->Option Int->Hp->VK->Prop:=λx d e H Q=>∃a c,x= .ref a/\SqL K H a c/\∀p,H p=none->Q (.ref p) (upd H p (.lst (cutV c d e)))
def Yc9:SlR X (rSlL X.K):=by intro g s u H x v y w e f z Q I j t l k h;let(a,c,rfl,p,q):=h;cases j;let(m,r,i,n):=I.list p;have d:=r.length;show("list",_,slot_list_getitem.lookup,i.isList.typeIs,?_);show wpAny_getItem_list_slice i.isList t l k .none 's' ?_ (by rw[Aq]<;>lia);rw[Jq,<-d];show(.ref s⁻¹,_,I.laid (t':=s.toks) (o:= .lst (cutV c e f)) (λb A q=>Ah _ q) (na _) ?_,rfl,q _ (I.hok.fresh (na _)));show(ni (Qd c e f) n,_,0,(r.drop (HT.sIx c.length 0 e)).take (HT.sIx c.length c.length f - HT.sIx c.length 0 e),Dp _ rfl)
def X4:V->Bool
 | .non=>true
 | .bl _=>true
 | .int _=>true
 | .str _=>true
 | _=>false
def eqV:V->V->Bool
 | .non,.non=>true
 | .bl a,.bl b=>a==b
 | .bl a,.int b=>(if a then 1 else 0)==b
 | .int a,.bl b=>a==(if b then 1 else 0)
 | .int a,.int b=>a==b
 | .str a,.str b=>a==b
 | _,_=>false
def Z06{s:Ui}{y x:V}{u v:Uh}(e:RelV y u)(c:RelV x v)(g:X4 y=true)(f:X4 x=true):Hs A s u v (eqV y x):=by
 cases y with
 | non=>
  cases e;cases x with
  | non=>cases c;show Hs.same _
  | bl b=>cases c;show Hs.none_bool b
  | int b=>let(t,rfl):=c;show Hs.none_int b t
  | str b=>let(t,rfl):=c;show Hs.none_str b t
  | _=>show 'f'
 | bl a=>
  cases e;cases x with
  | non=>cases c;show Hs.bool_none a
  | bl b=>cases c;show Hs.bool_bool a b
  | int b=>let(t,rfl):=c;show Hs.bool_int a b t
  | str b=>let(t,rfl):=c;show Hs.bool_str a b t
  | _=>show 'f'
 | int a=>
  let(d,rfl):=e;cases x with
  | non=>cases c;show Hs.int_none a d
  | bl b=>cases c;show Hs.int_bool a d b
  | int b=>let(t,rfl):=c;show Hs.int_int a d b t
  | str b=>let(t,rfl):=c;show Hs.int_str a d b t
  | _=>show 'f'
 | str a=>
  let(d,rfl):=e;cases x with
  | non=>cases c;show Hs.str_none a d
  | bl b=>cases c;show Hs.str_bool a d b
  | int b=>let(t,rfl):=c;show Hs.str_int a d b t
  | str b=>let(t,rfl):=c;show Hs.str_str a d b t
  | _=>show 'f'
 | _=>show absurd (show false=true from g) Bf9
def eqU(x:V)(u:Uh):Bool:=match u with
 | .none=>eqV .non x
 | .bool b=>eqV (.bl b) x
 | .int i _=>eqV (.int i) x
 | .str z _=>eqV (.str z) x
 | _=>false
def Zi0{x y:V}(r:RelV y u)(f:X4 y=true):eqU x u=eqV y x:=by
 cases y with
 | non=>cases r;rfl
 | bl b=>cases r;rfl
 | int i=>let(t,rfl):=r;rfl
 | str z=>let(t,rfl):=r;rfl
 | _=>show 'f'
def Nz{x:V}:∀{xs:LV} {us:LW},Vals xs us->xs.all X4=true->us.any (eqU x)=xs.any λy=>eqV y x:=by
 intro xs us h;induction h with
 | nil=>intro _;rfl
 | cons r t ih=>intro f;rw[Ko,Bz9] at f;rw[Le,Le,Zi0 r f.1,ih f.2]
def Tv{s:Ui}{x:V}{v:Uh}(d:RelV x v)(e:X4 x=true):∀{xs:LV} {us:LW},Vals xs us->xs.all X4=true->∀u∈us,Hs A s u v (eqU x u):=by
 intro xs us h;induction h with
 | nil=>intro _ u c;cases c
 | cons r t ih=>
  intro f g c;rw[Ko,Bz9] at f;rcases Ak.mp c with rfl|c
  .rw[Zi0 r f.1];show Z06 r d f.1 e
  .show ih f.2 g c
def inV(x:V)(xs:LV):Bool:=xs.any λy=>eqV y x
def rIn(K:Ae)(d:Bool):R2:=λx y H Q=>∃p c,y= .ref p/\(SqL K H p c\/SqT K H p c)/\X4 x=true/\c.all X4=true/\Q (.bl (if d then !inV x c else inV x c)) H
def Zh1:OpR X (compareOp .In) (rIn X.K false):=by
 intro j s n H x y v u Q I i l h;let(p,o,rfl,d,k,e,q):=h;cases l;rcases d with d|d
 .let(c,r,f,m):=I.list d;show SeqAt.in_listAt (eqU x) f.isList (λw g=>Tv i k r e w ↥g) (.bl _,H,I,rfl,?_);rw[show c.toArray.any (eqU x)=c.any (eqU x) by simp,Nz r e];show q
 .let(c,r,f,m):=I.tuple d;show SeqAt.in_tupleAt (eqU x) f (λw g=>Tv i k r e w ↥g) (.bl _,H,I,rfl,?_);rw[show c.toArray.any (eqU x)=c.any (eqU x) by simp,Nz r e];show q
def Gj:OpR X (compareOp .NotIn) (rIn X.K true):=by
 intro j s n H x y v u Q I i l h;let(p,o,rfl,d,k,e,q):=h;cases l;rcases d with d|d
 .let(c,r,f,m):=I.list d;show SeqAt.notIn_listAt (eqU x) f.isList (λw g=>Tv i k r e w ↥g) (.bl _,H,I,rfl,?_);rw[show c.toArray.any (eqU x)=c.any (eqU x) by simp,Nz r e];show q
 .let(c,r,f,m):=I.tuple d;show SeqAt.notIn_tupleAt (eqU x) f (λw g=>Tv i k r e w ↥g) (.bl _,H,I,rfl,?_);rw[show c.toArray.any (eqU x)=c.any (eqU x) by simp,Nz r e];show q
def R9:Xm X (.builtin "len") (λxs H Q=>∃p ys,xs=[.ref p]/\(SqL X.K H p ys\/SqT X.K H p ys)/\Q (.int ys.length) H):=by
 intro i s l H xs m Q I r h;let(p,ys,rfl,d,q):=h;let(u,rfl,j):=Vz r;cases j;have n:=Tu;rcases d with d|d
 .let(g,e,f,k):=I.list d;have c:=e.length;show Calls.call_len_list f.isList (by erw[Aq]<;>lia) (.int ys.length,H,I.tok _,(s.toks+1,by rw[Aq,c]),q)
 .let(g,e,f,k):=I.tuple d;have c:=e.length;show len_tuple f (by erw[Aq]<;>lia) (.int ys.length,H,I.tok _,(s.toks+1,by rw[Aq,c]),q)
def Ga:Xm X (.builtin "len") (λxs H Q=>∃z,xs=[.str z]/\z.length<=sizeLine/\Q (.int z.length) H):=by intro c s d H xs e Q I r h;let(z,rfl,f,q):=h;let(u,rfl,t,rfl):=Vz r;have g:=Tu;show len_str 'o' (.int z.length,H,I.tok _,(_,rfl),q)
def Gv:Xm X (.type "list") (λxs H Q=>∃p ys,xs=[.ref p]/\(SqL X.K H p ys\/SqT X.K H p ys)/\∀l,H l=none->Q (.ref l) (upd H l (.lst ys))):=by
 intro i s C H xs E Q I r h;let(p,ys,rfl,m,q):=h;let(u,rfl,D):=Vz r;cases D;have v:∀(c:LW),Vals ys c->ys.length<=sizeLine->∀(d:Um) (g:Nat),(∀b B,s.heap.get? b=some B->d.get? b=some B)->
   d.get? s⁻¹=some {cls:= .type "list",dict:=none,data:= .seq c.toArray g,slots:=#[]}->EP X i C Q (.ref s⁻¹) {s with heap:=d}:=λc f k d g j e=>
  (.ref s⁻¹,_,I.laid (t':=s.toks) j (na _) (show Yb X.prog X.w _ d _ (.lst ys) from(k,c,g,f,e)),rfl,q _ (I.hok.fresh (na _)))
 rcases m with m|m
 .let(c,f,x,k):=I.list m;have t:=f.length;let(o,y,A,n,z):=x.isList;show call_list_seq p (.inl rfl) y A z (λd g j e=>v c f k d g j e) (by erw[Aq]<;>lia)
 .let(c,f,x,k):=I.tuple m;have t:=f.length;let(o,y,A,n,z):=x;show call_list_seq p (.inr rfl) y A z (λd g j e=>v c f k d g j e) (by erw[Aq]<;>lia)
def Tp:Xm X (.type "tuple") (λxs H Q=>∃p ys,xs=[.ref p]/\((SqL X.K H p ys/\∀l,H l=none->Q (.ref l) (upd H l (.tup ys)))\/(SqT X.K H p ys/\Q (.ref p) H))):=by
 intro c s k H xs z Q I r h;let(p,ys,rfl,h):=h;let(u,rfl,v):=Vz r;cases v;rcases h with⟨j,q⟩|⟨j,q⟩
 .let(d,g,i,m):=I.list j;have n:=g.length;show call_tuple_list i.isList (λf x=>?_) (by erw[Aq]<;>lia);have t:Inv X c k H {s with heap:=f}:=I.kept (t':=s.toks) x;have y:Inv X c k (upd H f.objs.size (.tup ys)) {s with heap:=f.push {cls:= .type "tuple",data:= .seq d.toArray}}:=
   t.laid (t':=s.toks) (λb o e=>Ah _ e) (na _) (show Yb X.prog X.w _ _ _ (.tup ys) from(m,d,g,IsTup.new _ _))
  show(.ref f.objs.size,_,y,rfl,q _ (t.hok.fresh (na _)))
 .let(d,g,i,m):=I.tuple j;show call_tuple_same i (.ref p,H,I,rfl,q)
def tyV(K:Ae)(T:String)(x:V)(H:Hp):Prop:=match x with
 | .str _=>T="str"
 | .int _=>T="int"
 | .ref p=>(T="list"/\∃d,SqL K H p d)\/(T="tuple"/\∃o,K.lookup p=some o/\o.cls= .type "tuple"/\o.dict=none)\/
   (T="dict"/\((∃c,H p=some (.dK c))\/∃c,H p=some (.dT c)))\/(T="set"/\∃S n,H p=some (.set S n))
 | _=>False
def Y21{H:Hp}{s:Ui}{T:String}{x:V}{v:Uh}(I:Inv X pins q H s)(r:RelV x v)(g:tyV X.K T x H):
  s.TypeIs v T/\∀a,v= .ref a->∃m,s.heap.get? a=some m/\m.dict=none:=by
 cases x with
 | str z=>let(t,rfl):=r;cases (show T="str" from g);show(typeIs_str s z t,λ_ e=>nomatch e)
 | int i=>let(t,rfl):=r;cases (show T="int" from g);show(typeIs_int s i t,λ_ e=>nomatch e)
 | ref p=>
  cases r;rcases g with⟨rfl,A,w⟩|⟨rfl,o,d,y,j⟩|⟨rfl,d⟩|⟨rfl,S,n,d⟩
  .let(u,_,l,_):=I.list w;show(l.isList.typeIs,λa e=>?_);cases e;let(o,n,e,c,j,_):=l;show(o,e,j)
  .refine((o,I.kIn p o d,y),λa e=>?_);cases e;show(o,I.kIn _ o d,j)
  .have z:∃o,s.heap.get? p=some o/\o.ExactDict:=by
    rcases d with⟨h,d⟩|⟨h,d⟩
    .let(_,_,_,_,o,_,_,e,f,_):=I.hok p _ d;show(o,e,f)
    .let(_,_,_,_,o,_,_,e,f,_):=I.hok p _ d;show(o,e,f)
   let(o,e,f):=z;show((o,e,f.1),λa k=>?_);cases k;show(o,e,f.2.1)
  .let(o,_,_,_,e,f,_):=I.hok p _ d;show((o,e,f.1),λa k=>?_);cases k;show(o,e,f.2.1)
 | _=>show Dq g
def tBM0(K:Ae)(T:String)(r:V->LV->Hp->VK->Prop)(e:TE):TE:=λd H Q=>e d H λx c=>tyV K T x c/\r x [] c Q
def tBM(K:Ae)(T:String)(r:V->LV->Hp->VK->Prop)(f:TE)(t:TA):TE:=λc H Q=>f c H λx d=>tyV K T x d/\t c d λe g=>r x e g Q
variable{o e:Expr}{es:List Expr}{to:TE}{t:TA}{name:Str}{apos cpos:Pos}{T id:String}{r:V->LV->Hp->VK->Prop}
def Yk9(q:PlainAttrs T)(g:Slot T name id)(i:typeOf (.builtin id)=pure (.type "method_descriptor"))(w:MtR X id r)(u:PE X o to)
  (f:attributeBase o name X.env (eval o X.env)=eval o X.env:=by rfl) (d:(apos.endLine==cpos.line)=true:=by rfl):PE X (.Call (.Attribute o name apos) [] [] cpos) (tBM0 X.K T r to):=by
 intro c s j H Q I h;show wpAny_Call_method0_late f d (thn (u c s j H _ I h) λv n zz=>?_);let(x,A,l,k,m,p):=zz;let(z,y):=Y21 l k m;show(T,id,q,g,i,z,y,Calls.callWith_builtin rfl (PySem.evalArgs_none (w c n j A x [] v [] Q l k .nil p)))
def Yu7(E:PlainAttrs T)(i:Slot T name id)(l:typeOf (.builtin id)=pure (.type "method_descriptor"))(J:MtR X id r)(G:PE X o to)(L:PA X (e::es) t)
  (g:attributeBase o name X.env (eval o X.env)=eval o X.env:=by rfl)
  (j:((backTo cpos (starEach (e::es) X.env)).all (λx=> !x.1)&&(backToKw cpos (keywordEach [] X.env)).all (λx=>x.1.isSome)
   &&decide ((e::es).length+([]:List Keyword).length+(if ([]:List Keyword).isEmpty then 0 else 1)<30))=true:=by rfl)
  (f:(apos.endLine==cpos.line)=true:=by rfl) (F:starEach (e::es) X.env=#v[false,eval e X.env]::starEach es X.env:=by rfl) (d:(backTo cpos (starEach es X.env)).any (·.1)=false:=by rfl):
  PE X (.Call (.Attribute o name apos) (e::es) [] cpos) (tBM X.K T r to t):=by
 intro c s k H Q I h;show wpAny_Call_method_late g j f rfl (thn (G c s k H _ I h) λv A zz=>?_);let(x,R,q,n,y,D):=zz;let(N,M):=Y21 q n y;show(T,id,E,i,l,N,M,?_);have p:=L cpos c A k R _ q D;rw[F] at p |-;show Calls.callWith_builtin (by show(false || (backTo cpos (starEach es X.env)).any (·.1))=false;rw[d]<;>rfl) (Calls.evalArgs_plain ?_);show thn p λw z zz=>by let(u,P,O,B,C):=zz;show J c z k P x u v w Q O n B C
end
def MtM(X:Cx)(id:String)(r:V->LV->Hp->VK->Prop):Prop:=
 ∀(a:PLO) (s:Ui) (b:St) (H:Hp) (x:V) (c:LV) (v:Uh) (d:LW) (Q:VK),Inv X a b H s->RelV x v->Vals c d->r x c H Q->
  ⇑X (call (.builtin id) (v::d)) (EP X a b Q) X.xe s
def Vals.one:∀{x:V} {us:LW},Vals [x] us->∃u,us=[u]/\RelV x u:=by
 intro x us h;cases h with
 | cons r t=>cases t;show(_,rfl,r)
def Vals.zero:∀{us:LW},Vals [] us->us=[]
 | _,.nil=>rfl
def Vals.dropLast(h:Vals xs us):Vals xs.dropLast us.dropLast:=by
 induction h with
 | nil=>show .nil
 | cons r t a=>
  cases t with
  | nil=>show .nil
  | cons q b=>show .cons r a
def Vals.reverse(h:Vals xs us):Vals xs.reverse us.reverse:=by
 induction h with
 | nil=>show .nil
 | cons r t a=>rw[List.reverse_cons,List.reverse_cons];show Vals.append a (.cons r .nil)
def Vals.rep(h:Vals xs us):∀k:Nat,Vals (Hn k xs).flatten (Hn k us).flatten
 | 0=> .nil
 | k+1=>by rw[Lc,Lc,Lx,Lx];show Vals.append h (Vals.rep h k)
def Z58{c:Type}(l:List c):l.eraseIdx (l.length - 1)=l.dropLast:=by
 induction l with
 | nil=>rfl
 | cons a r d=>
  cases r with
  | nil=>rfl
  | cons b r=>
   have e:(a::b::r).length - 1=((b::r).length - 1)+1:=by have g:(a::b::r).length=r.length+2:=rfl;have f:(b::r).length=r.length+1:=rfl;lia
   rw[e,List.eraseIdx_cons_succ,d]
   all_goals rfl
def Ec(its:LW):∀(k:Nat) (a:LW),
  List.foldl (λc b=>c++b) a.toArray (Hn k its.toArray)=(a++(Hn k its).flatten).toArray
 | 0,a=>by simp
 | k+1,a=>by
  have e:a.toArray++its.toArray=(a++its).toArray:=by simp
  have d:(a++its)++(Hn k its).flatten=a++(Hn (k+1) its).flatten:=by rw[Lc,Lx,Db]
  rw[<-d,<-Ec its k (a++its),<-e,Lc,Mp]
section
variable{X:Cx}{pins:PLO}{σ:St}{H:Hp}{s:Ui}{l b:Uj}{xs ys zs:LV}
def Inv.lset{its its':LW}{n:Nat}{f:Array Uh->Array Uh}{t':Nat}(I:'v')(i:H l=some (.lst xs))
  (e:s.heap.get? l=some {cls:= .type "list",data:= .seq its.toArray n}) (g:f its.toArray=its'.toArray) (c:Vals ys its') (a:ys.length<=sizeLine):
  Inv X pins σ (upd H l (.lst ys)) {s with heap:=s.heap.update l (Ma f),toks:=t'}:=by
 have q:=PySem.IsL.update e f;rw[g] at q;show I.write (x:=l) (e:=l) (by rw[i];show trivial) (.inl rfl) (λj u h d=>(Ie s.heap (Ma f) (Il h)).trans d) (_,q) ?_;show(a,its',_,c,q)
def Inv.lnew(I:'v')(a:Vals ys its)(hz:ys.length<=sizeLine):
  Inv X pins σ (upd H s⁻¹ (.lst ys)) {s with heap:=s.heap.push {cls:= .type "list",data:= .seq its.toArray},toks:=t'}:=
 I.laid (λ_ _ q=>Ah _ q) (na _) (hz,its,0,a,Dp _ rfl)
def Inv.fresh(I:'v'):H s⁻¹=none:=I.hok.fresh (na _)
def Inv.lstM(I:'v')(a:H l=some (.lst xs)):xs.length<=sizeLine/\∃(its:LW) (n:Nat),Vals xs its/\xs.length=its.length/\s.heap.get? l=some {cls:= .type "list",data:= .seq its.toArray n}:=by let(z,its,n,r,e):=I.hok l _ a;show(z,its,n,r,r.length,e)
def Bg{n:Nat}(h:n<=sizeLine):Me n=false:=by ext Me;show mm 'o'
end
section
variable{X:Cx}
def Y81:V->LV->Hp->VK->Prop:=λx b H Q=>∃l a y,x= .ref l/\b=[y]/\H l=some (.lst a)/\a.length<sizeLine/\Q .non (upd H l (.lst (a++[y])))
def Gb:MtM X "list.append" Y81:=by intro b s i H x k v m Q I d f h;let(l,j,y,rfl,rfl,c,o,q):=h;cases d;let(u,rfl,g):=f.one;let(z,a,n,r,p,e):=I.lstM c;show Mq F.slot_list_append (_,e,rfl) F.entry_list_append (F.args_list_append_2 _ _) (PySem.list_append l a.toArray n u (by rw[Aq];lia)) (e,?_);show(.non,_,I.lset (its':=a++[u]) c e 's' (r.append (.cons g .nil)) ?_,rfl,q);rw[Ag,Au];lia
def Yb6:V->LV->Hp->VK->Prop:=λx d H Q=>∃l b c a,x= .ref l/\d=[.ref b]/\H l=some (.lst c)/\H b=some (.lst a)/\c.length+a.length<=sizeLine/\Q .non (upd H l (.lst (c++a)))
def Ze0:MtM X "list.extend" Yb6:=by
 intro g s A H x E v G Q I j k h;let(l,b,D,B,rfl,rfl,i,w,J,q):=h;cases j;let(u,rfl,m):=k.one;cases m;let(z,c,n,r,K,e):=I.lstM i;let(C,a,p,o,t,y):=I.lstM w;have f:c.toArray.size+a.toArray.size<=sizeLine:=by rw[Aq,Aq];lia
 have d:¬(!c.toArray.isEmpty&&Me (c.toArray.size+a.toArray.size))=true:=by rw[Bg f,Bool.and_false];show Bf9
 show Mq F.slot_list_extend (_,e,rfl) F.entry_list_extend (F.args_list_extend_2 _ _)
  (AutoSeq1.list_extend_list_list_0 l c.toArray n b a.toArray p d (by rw[Aq];lia) 'o') (e,y,?_)
 show(.non,_,I.lset (its':=c++a) i e 's' (r.append o) ?_,rfl,q);rw[Ag];lia
def rPop:V->LV->Hp->VK->Prop:=λx b H Q=>∃l a y,x= .ref l/\b=[]/\H l=some (.lst a)/\a[a.length - 1]?=some y/\Q y (upd H l (.lst a.dropLast))
def Yj9:MtM X "list.pop" rPop:=by
 intro d s p H x w v A Q I g i h;let(l,t,y,rfl,rfl,f,k,q):=h;cases g;have c:=i.zero;subst c;let(z,a,n,r,o,e):=I.lstM f;let(u,m,j):=r.get k;have b:a.toArray[a.toArray.size - 1]?=some u:=by change a.toArray[a.length - 1]?=some u;rw[<-Array.getElem?_toList,<-o];show m
 show Mq F.slot_list_pop (_,e,rfl) F.entry_list_pop (F.args_list_pop_1 _) (MeetsSeq.list_pop_last l a.toArray n u b (by rw[Aq];lia)) (e,?_);show(y,_,I.lset (its':=a.dropLast) f e ?_ r.dropLast ?_,j,q)
 .change a.toArray.eraseIdxIfInBounds (a.toArray.size - 1)=a.dropLast.toArray;rw[Aq,List.eraseIdxIfInBounds_toArray,Z58]
 .rw[List.length_dropLast];lia
def Zw7:V->LV->Hp->VK->Prop:=λx b H Q=>∃l a,x= .ref l/\b=[]/\H l=some (.lst a)/\Q .non (upd H l (.lst a.reverse))
def Z94:MtM X "list.reverse" Zw7:=by intro c s i H x k v m Q I f g h;let(l,j,rfl,rfl,d,q):=h;cases f;have b:=g.zero;subst b;let(z,a,n,r,o,e):=I.lstM d;show Mq F.slot_list_reverse (_,e,rfl) F.entry_list_reverse (F.args_list_reverse_1 _) (AutoSeq1.list_reverse_list_0 l a.toArray n (by rw[Aq];lia)) (e,?_);show(.non,_,I.lset (its':=a.reverse) d e 's' r.reverse ?_,rfl,q);rw[Ht];lia
def Yj5:V->LV->Hp->VK->Prop:=λx b H Q=>∃l a,x= .ref l/\b=[]/\H l=some (.lst a)/\Q .non (upd H l (.lst []))
def Zq7:MtM X "list.clear" Yj5:=by intro c s i H x k v m Q I f g h;let(l,j,rfl,rfl,d,q):=h;cases f;have b:=g.zero;subst b;let(z,a,n,r,o,e):=I.lstM d;show Mq F.slot_list_clear (_,e,rfl) F.entry_list_clear (F.args_list_clear_1 _) (AutoSeq1.list_clear_list_0 l a.toArray n (by rw[Aq];lia)) (e,?_);show(.non,_,I.lset (its':=[]) (ys:=[]) d e rfl .nil (nk _),rfl,q)
def rCat:R2:=λx y H Q=>∃l b c a,x= .ref l/\y= .ref b/\H l=some (.lst c)/\H b=some (.lst a)/\c.length+a.length<=sizeLine/\∀p,H p=none->Q (.ref p) (upd H p (.lst (c++a)))
def Yl4:OpR X (binaryOp .Add) rCat:=by
 intro d s t H x y v u Q I g f h;let(l,b,B,w,rfl,rfl,k,m,D,q):=h;cases g;cases f;let(z,c,n,r,E,e):=I.lstM k;let(A,a,C,i,j,p):=I.lstM m;show PySem.P.add_list e p ?_ (by rw[Aq,Aq];lia);have o:c.toArray++a.toArray=(c++a).toArray:=by simp
 rw[o];show(.ref _,_,I.lnew (t':=s.toks) (r.append i) (by rw[Ag];lia),rfl,q _ I.fresh)
def rRep:R2:=λx y H Q=>∃l k a,x= .ref l/\y= .int k/\H l=some (.lst a)/\ -(2 ^ 63)<=k/\k<2 ^ 63/\a.length * k.toNat<=sizeLine/\
 ∀p,H p=none->Q (.ref p) (upd H p (.lst (Hn k.toNat a).flatten))
def Y55{a:Type}(xs:List a)(k:Nat):(Hn k xs).flatten.length=k * xs.length:=by
 induction k with
 | zero=>simp
 | succ k b=>rw[Lc,Lx,Ag,b,Nat.succ_mul,Nat.add_comm]
def Yq9:OpR X (binaryOp .Mult) rRep:=by
 intro pins s σ H x y v u Q I rx ry h;let(l,k,xs,rfl,rfl,hH,h1,h2,hz,q):=h;cases rx;let(t,rfl):=ry;let(z,its,n,r,hl,e):=I.lstM hH;have hlen:its.toArray.size * k.toNat<=sizeLine:=by rw[Aq,<-hl];show hz
 have hcap:¬its.toArray.size * k.toNat >(2 ^ 63 - 1) / 8:=by have:(sizeLine:Nat)<=(2 ^ 63 - 1) / 8:='d';lia
 have hfit:¬(!Builtin.List.listFitsIndex k)=true:=by rw[fitsIndex_both h1 h2];show Bf9
 have hlong:¬Me (its.toArray.size * k.toNat)=true:=by rw[Bg hlen];show Bf9
 have hnew:List.foldl (λx1 x2=>x1++x2) #[] (Hn (if its.toArray.isEmpty=true then 0 else k.toNat) its.toArray)=(Hn k.toNat its).flatten.toArray:=by
  have f0:∀m:Nat,List.foldl (λx1 x2=>x1++x2) #[] (Hn m its.toArray)=(Hn m its).flatten.toArray:=λm=>by have:=Ec its m [];rwa[Mr] at this
  rw[f0];cases its with
  | nil=>simp
  | cons a r'=>rw[nc 's']
 show wpAny_binaryOp_repeat_ref (T:="list") (U:="int") 'd' (_,e,rfl) (λs'=>typeIs_int s' k t) noFill_list_mul F.fills_int_mul F.slot_int_rmul repeat_list F.slot_int_index.lookup
  (Mq F.slot_int_rmul (typeIs_int s k t) F.entry_int_rmul (F.args_int_rmul_2 _ _) (int___rmul___int_list k t l its.toArray n)
   (e,rfl,(_,e,rfl),Mq F.slot_list_mul (_,e,rfl) F.entry_list_mul (F.args_list_mul_2 _ _) (AutoListH.list___mul___list_int_3 l its.toArray n k t hfit hcap hlong) (e,?_)))
 rw[hnew];show(.ref _,_,I.lnew (t':=s.toks) (r.rep k.toNat) (by rw[Y55,Nat.mul_comm];show hz),rfl,q _ I.fresh)
end
section
variable{κ:Type}[DecidableEq κ]
def valV(kvs:List (κ×V))(k:κ):Option V:=(kvs.find? λa=>decide (a.1=k)).map (·.2)
def putK(kvs:List (κ×V))(k:κ)(v:V):List (κ×V):=
 if (kvs.any λa=>decide (a.1=k))=true then kvs.map (λa=>if a.1=k then#v[a.1,v] else a) else kvs++[#v[k,v]]
def Ji{p:κ×V}{k:κ}(e:p.1=k):valV (p::r) k=some p.2:=by simp[valV,Im,e]
def Jy{p:κ×V}{k:κ}(e:¬p.1=k):valV (p::r) k=valV r k:=by simp[valV,Im,e]
def B6(k:κ):∀kvs:List (κ×V),(kvs.any λa=>decide (a.1=k))=(valV kvs k).isSome
 | []=>rfl
 | p::r=>by
  rw[Le];by_cases e:p.1=k
  .simp only[Ji e,decide_eq_true e,Bool.true_or,Option.isSome_some]
  .rw[Jy e,mm e,Bool.false_or];show B6 k r
def W5(kvs:List (κ×V))(k:κ)(v:V):(putK kvs k v).length<=kvs.length+1:=by
 ext putK;split
 .rw[Ai];lia
 .rw[Ag,Dy,Ku];lia
def RelO.isSome_eq{o:Option V}(r:RelO o u):o.isSome=u.isSome:=by
 cases o with
 | none=>cases u with
  | none=>rfl
  | some _=>show(show False from r).elim
 | some _=>cases u with
  | none=>show(show False from r).elim
  | some _=>rfl
def RelO.getD{o:Option V}{d:V}(r:RelO o u)(a:RelV d d'):RelV (o.getD d) (u.getD d'):=by
 cases o with
 | none=>cases u with
  | none=>show a
  | some _=>show(show False from r).elim
 | some _=>cases u with
  | none=>show(show False from r).elim
  | some _=>show r
def KV.val(r:KV kvs vs)(k:κ):RelO (valV kvs k) (valueAt vs k):=by
 ext r KV;induction r with
 | nil=>show Ld
 | @cons p q i a h t f=>
  let(d,g):=h;by_cases e:p.1=k
  .have c:q.1=k:=d.symm.trans e;have b:valueAt (q::a) k=some q.2:=by simp[valueAt,Im,c]
   rw[Ji e,b];show g
  .have c:¬q.1=k:=λz=>e (d.trans z);have b:valueAt (q::a) k=valueAt a k:=by simp[valueAt,Im,c]
   rw[Jy e,b];show f
def KV.any(r:KV kvs vs)(k:κ):(kvs.any λa=>decide (a.1=k))=vs.any λa=>decide (a.1=k):=by
 ext r KV;induction r with
 | nil=>rfl
 | cons h t b=>rw[Le,Le,b,h.1]
def KV.repl(r:KV kvs vs)(k:κ)(c:RelV y u):
  KV (kvs.map λa=>if a.1=k then#v[a.1,y] else a) (vs.map λa=>if a.1=k then#v[a.1,u] else a):=by
 unfold KV at r |-;induction r with
 | nil=>show .nil
 | @cons p q i g h t d=>
  rw[Az,Az];show .cons ?_ d;let(b,f):=h;by_cases e:p.1=k
  .rw[ng e,ng (b.symm.trans e)];show(b,c)
  .rw[nc e,nc (λz=>e (b.trans z))];show(b,f)
def KV.put(r:KV kvs vs)(k:κ)(a:RelV y u):KV (putK kvs k y) (stored vs k u):=by
 unfold putK stored;rw[r.any k];by_cases e:(vs.any λb=>decide (b.1=k))=true
 .rw[ng e,ng e];show r.repl k a
 .rw[nc e,nc e];show Paired.snoc r (rfl,a)
def KV.length(r:KV kvs vs):kvs.length=vs.length:=Paired.length r
end
def Jg{w:Ul}{k:Key}(r:RelV (kV k) u):(Zl P w).is k u=true:=by
 cases k with
 | inl i=>let(t,e):=(show ∃t,u=Value.int i t from r);subst e;show Er P w i t
 | inr x=>let(t,e):=(show ∃t,u=Value.str x t from r);subst e;show Cf P w x t
def Fk{w:Ul}:∀{ks:List Key} {us:LW},Vals (ks.map kV) us->ItemsAre (Zl P w) ks us
 | [],_,r=>by rw[Dh] at r;cases r;show .nil
 | k::ks,_,r=>by
  rw[Az] at r;cases r with
  | cons h t=>show .cons (Jg h) (Fk t)
abbrev KT(H:Hp):List (List Key×V)->List (List Key×Uj×Uh)->Prop:=Paired λp q=>p.1=q.1/\H q.2.1=some (.tup (p.1.map kV))/\RelV p.2 q.2.2
def KT.val{H:Hp}(r:KT H kvs xs)(k:List Key):RelO (valV kvs k) ((atKey xs k).map (·.2)):=by
 induction r with
 | nil=>show Ld
 | @cons p q i a h t f=>
  let(d,_,g):=h;by_cases e:p.1=k
  .have c:q.1=k:=d.symm.trans e;have b:atKey (q::a) k=some q.2:=by simp[atKey,Im,c]
   rw[Ji e,b];show g
  .have c:¬q.1=k:=λz=>e (d.trans z);have b:atKey (q::a) k=atKey a k:=by simp[atKey,Im,c]
   rw[Jy e,b];show f
def KT.repl{H:Hp}(r:KT H kvs xs)(k:List Key)(d:RelV y u):
  KT H (kvs.map λb=>if b.1=k then#v[b.1,y] else b) (xs.map (putAt k u)):=by
 induction r with
 | nil=>show .nil
 | @cons p q j i h t f=>
  rw[Az,Az];show .cons ?_ f;let(a,c,g):=h;ext putAt;by_cases e:p.1=k
  .rw[ng e,ng (a.symm.trans e)];show(a,c,d)
  .rw[nc e,nc (λz=>e (a.trans z))];show(a,c,g)
def KT.put{H:Hp}(r:KT H kvs xs)(k:List Key){b:Uj}(d:H b=some (.tup (k.map kV)))(a:RelV y u):
  KT H (putK kvs k y) (storedH xs k b u):=by
 have e:(kvs.any λc=>decide (c.1=k))=(atKey xs k).isSome:=by rw[B6,(r.val k).isSome_eq,Option.isSome_map]
 unfold putK storedH;rw[e];by_cases q:(atKey xs k).isSome=true
 .rw[ng q,ng q];show r.repl k a
 .rw[nc q,nc q];show Paired.snoc r (rfl,d,a)
def KT.keeps{H H':Hp}(r:KT H kvs xs)(a:∀b ys,H b=some (.tup ys)->H' b=some (.tup ys)):KT H' kvs xs:=
 Paired.mapP r λ_ _ z=>(z.1,a _ _ z.2.1,z.2.2)
section
variable{P:Uk}{w:Ul}{H:Hp}{h:Um}{a:Uj}
def Yg5(b:HOk P w H h)(e:Rd H a u):Yb P w H h a u:=e.ok b
def Fx(b:HOk P w H h)(e:Rd H a (.dK kvs)):kvs.length<=sizeLine/\(a==sysModules)=false/\∃vs,KV kvs vs/\h.DictOf (Zl P w) a vs:=
 show Yb P w H h a (.dK kvs) from Yg5 b e
def Z99(b:HOk P w H h)(e:H a=some (.dK kvs)):kvs.length<=sizeLine/\(a==sysModules)=false/\∃vs,KV kvs vs/\h.DictOf (Zl P w) a vs:=Fx b (.inl e)
def Nf(c:HOk P w H h)(e:H a=some (.tup (ks.map kV))):(tupleKind (Zl P w)).is h ks a:=by let(_,b,r,o,g,f,n,d):=(show Yb P w H h a (.tup (ks.map kV)) from c a _ e);show(o,b.toArray,n,g,f,d,by simpa using Fk r)
def Z88(d:HOk P w H h)(e:Rd H a (.dT kvs)):kvs.length<=sizeLine/\(a==sysModules)=false/\
  ∃xs,KT H kvs xs/\h.DictOfH (tupleKind (Zl P w)) a xs:=by
 let(z,y,xs,r,o,u,v,s,n,k,j,i):=(show Yb P w H h a (.dT kvs) from Yg5 d e);show(z,y,xs,r,o,u,v,s,n,k,j,λx b=>?_,i);have c:∀{l:List (List Key×V)} {m:List (List Key×Uj×Uh)},KT H l m->∀x∈m,(tupleKind (Zl P w)).is h x.1 x.2.1:=by
  intro l m q;induction q with
  | nil=>intro x b;show nomatch b
  | @cons p q B A f t g=>
   intro x b;rcases Ak.mp b with e|b
   .subst e;show Nf d (by rw[<-f.1];show f.2.1)
   .show g x b
 show c r x b
def Yr1(b:HOk P w H h)(e:H a=some (.dT kvs)):kvs.length<=sizeLine/\(a==sysModules)=false/\
  ∃xs,KT H kvs xs/\h.DictOfH (tupleKind (Zl P w)) a xs:=Z88 b (.inl e)
end
def DGet(H:Hp)(a:Uj)(y:V)(r:Option V):Prop:=
 (∃c k,Rd H a (.dK c)/\y=kV k/\r=valV c k)\/∃c k b,Rd H a (.dT c)/\y= .ref b/\H b=some (.tup (k.map kV))/\r=valV c k
def DPut(H:Hp)(a:Uj)(y v:V)(H':Hp):Prop:=
 (∃c k,H a=some (.dK c)/\y=kV k/\c.length<sizeLine/\H'=upd H a (.dK (putK c k v)))\/
 ∃c k b,H a=some (.dT c)/\y= .ref b/\H b=some (.tup (k.map kV))/\c.length<sizeLine/\H'=upd H a (.dT (putK c k v))
def DGet.k{H:Hp}{a:Uj}{k:Key}(e:H a=some (.dK kvs)):DGet H a (kV k) (valV kvs k):= .inl (kvs,k,.inl e,rfl,rfl)
def DPut.k{H:Hp}{a:Uj}{k:Key}{v:V}(e:H a=some (.dK kvs))(b:kvs.length<sizeLine):DPut H a (kV k) v (upd H a (.dK (putK kvs k v))):= .inl (kvs,k,e,rfl,b,rfl)
section
variable{X:Cx}{pins:PLO}{σ:St}{H:Hp}{s:Ui}{a:Uj}{y v:V}{u r:Uh}{o:Option V}{A:Around}{E:VSP}
def Inv.big(I:'v'):sysModules<s⁻¹:=by have h:mainGlobals<s⁻¹:=(I.mod.glob.keeps I.bk).lt;show Nat.lt_trans 'd' h
def Zl9(C:A.units+1<cLine)(I:'v')(g:DGet H a y (some v))(t:RelV y u)(h:∀f s',Inv X pins σ H s'->RelV v f->Q f s'):
  wpAny (model X.prog X.w) A (getItem (.ref a) u) Q E s:=by
 rcases g with⟨i,k,e,n,l⟩|⟨i,k,b,e,n,G,l⟩
 .subst n;let(z,F,B,d,q):=Fx I.hok e;let(f,j,c):=RelO.some_of (v:=v) (o:=valueAt B k) (by rw[l];show d.val k);show wpAny_getItem_of (Jg t) q.mapOf j (h f _ (I.tok _) c)
 .subst n;cases (show u=Value.ref b from t);let(z,F,x,d,q):=Z88 I.hok e;let(f,j,c):=RelO.some_of (v:=v) (o:=(atKey x k).map (·.2)) (by rw[l];show d.val k);let(p,D,m):=Ig.mp j;show wpAny_getItem_heap (Ms C) (Nf I.hok G) q D ?_;rw[m];show h f _ (I.tok _) c
def d_in(n:A.units+1<cLine)(I:'v')(g:DGet H a y o)(m:RelV y u)(h:∀s',Inv X pins σ H s'->Q (.bool o.isSome) s'):
  wpAny (model X.prog X.w) A (compareOp .In u (.ref a)) Q E s:=by
 rcases g with⟨d,k,e,i,l⟩|⟨d,k,b,e,i,p,l⟩
 .subst i;let(z,f,x,c,j):=Fx I.hok e;show wpAny_in_of (Jg m) f j.mapOf ?_;rw[<-(c.val k).isSome_eq,<-l];show h _ (I.tok _)
 .subst i;cases (show u=Value.ref b from m);let(z,f,t,c,j):=Z88 I.hok e;show wpAny_in_heap (Ms n) (Nf I.hok p) f j ?_;have q:=(c.val k).isSome_eq;rw[Option.isSome_map] at q;rw[<-q,<-l];show h _ (I.tok _)
def Zc2(n:A.units+1<cLine)(I:'v')(g:DGet H a y o)(m:RelV y u)(h:∀s',Inv X pins σ H s'->Q (.bool (!o.isSome)) s'):
  wpAny (model X.prog X.w) A (compareOp .NotIn u (.ref a)) Q E s:=by
 rcases g with⟨d,k,e,i,l⟩|⟨d,k,b,e,i,p,l⟩
 .subst i;let(z,f,x,c,j):=Fx I.hok e;show wpAny_notIn_of (Jg m) f j.mapOf ?_;rw[<-(c.val k).isSome_eq,<-l];show h _ (I.tok _)
 .subst i;cases (show u=Value.ref b from m);let(z,f,t,c,j):=Z88 I.hok e;show wpAny_notIn_heap (Ms n) (Nf I.hok p) f j ?_;have q:=(c.val k).isSome_eq;rw[Option.isSome_map] at q;rw[<-q,<-l];show h _ (I.tok _)
def Cz{c:HO}(I:'v')(f:Mut (H a))(g:Lh a s.heap h')(h:∃q,h'.get? a=some q)(d:Yb X.prog X.w (upd H a c) h' a c):
  Inv X pins σ (upd H a c) {s with heap:=h',toks:=t'}:=
 I.write (x:=a) (e:=a) f (.inl rfl) (λb q i z=>(g.2 b i).trans z) h d
def Z21{w:Ul}(z:kvs.length<=sizeLine)(c:(a==sysModules)=false)(b:KV kvs vs)(d:h'.DictOf (Zl P w) a vs):
  Yb P w H' h' a (.dK kvs):=(z,c,vs,b,d)
def Zf9(N:A.units+1<cLine)(I:'v')(g:DPut H a y v H')(D:RelV y u)(F:RelV v r)(h:∀s',Inv X pins σ H' s'->Q () s'):
  wpAny (model X.prog X.w) A (setItem (.ref a) u r) Q E s:=by
 rcases g with⟨f,k,e,x,l,B⟩|⟨f,k,b,e,x,K,l,B⟩
 .subst x B;let(z,t,M,d,C):=Z99 I.hok e;have m:M.length<=sizeLine:=by rw[<-d.length];show z
  have p:(putK f k v).length<=sizeLine:=by have:=W5 f k v;lia
  show wpAny_setItem_pairs (hsz:=m) (Jg D) C λG i n=>h _ ?_;have O:∃q,G.get? a=some q:=by let(q,_,_,j,_):=i;show(q,j)
  show Cz I (by rw[e];show Ld) n O (Z21 p t (d.put k F) i)
 .subst x B;cases (show u=Value.ref b from D);let(z,t,L,d,C):=Yr1 I.hok e;have m:L.length<=sizeLine:=by rw[<-Paired.length d];show z
  have p:(putK f k v).length<=sizeLine:=by have:=W5 f k v;lia
  show wpAny_setItem_heap (hsz:=m) (Ms N) (Nf I.hok K) C λG i n=>h _ ?_;let(q,U,V,j,T,S,R,_,P):=i;show Cz I (by rw[e];show Ld) n (q,j) (p,t,_,(d.put k K F).keeps λc W J=>?_,q,U,V,j,T,S,R,P);rw[Z6 (Ys7 J e (λz=>nomatch z))];show J
end
section
variable{X:Cx}{pins:PLO}{σ:St}{H:Hp}{s:Ui}{a:Uj}{kvs:List (Key×V)}{k:Key}{u:Uh}{A:Around}{E:VSP}
def Yv7(I:'v')(e:Rd H a (.dK kvs))(h:∀t s',Inv X pins σ H s'->Q (.int kvs.length t) s'):wpAny (model X.prog X.w) A (call (.builtin "len") [.ref a]) Q E s:=by let(z,c,f,b,d):=Fx I.hok e;show call_len_dict c d (by rw[<-b.length];rw[Mw] at z;lia) ?_;rw[<-b.length];show h _ _ (I.tok _)
end
def Cs{H:Hp}{s:Ui}{a:Uj}{o:Option V}(I:Inv X pins f H s)(g:DGet H a y o):s.TypeIs (.ref a) "dict":=by
 rcases g with⟨c,k,e,_,_⟩|⟨c,k,b,e,_,_,_⟩
 .let(_,_,i,_,d):=Fx I.hok e;show d.typeIs
 .let(_,_,h,_,d):=Z88 I.hok e;show d.typeIs
def Z02{w:Ul}{H:Hp}(h:Um)(a:sysModules<h.objs.size):Yb P w H (h.push {cls:= .type "dict",data:= .dict #[]}) h.objs.size (.dK []):=
 (nk _,beq_eq_false_iff_ne.mpr (Il (nj a)),[],.nil,Heap.DictOf.new h)
def Yl2:TE:=λ_ H Q=>∀p,H p=none->Q (.ref p) (upd H p (.dK []))
section
variable{X:Cx}{pos:Pos}
def Zr0:PE X (.Dict [] [] pos) Yl2:=λb s c H Q I h=>
 wpAny_Dict_empty (.ref s⁻¹,_,I.laid (a:=s⁻¹) (o:= .dK []) (t':=s.toks) (λ_ _ q=>Ah _ q) (na _) (Z02 s.heap I.big),rfl,h _ (I.hok.fresh (na _)))
end
def Zd9:List (TE×TE)->St->Hp->(List (V×V)->Hp->Prop)->Prop
 | [],_,H,Q=>Q [] H
 |#v[c,b]::r,a,H,Q=>c a H λx g=>b a g λy f=>Zd9 r a f λd e=>Q (#v[x,y]::d) e
abbrev VV:List (V×V)->List (Uh×Uh)->Prop:=Paired λp q=>RelV p.1 q.1/\RelV p.2 q.2
def PPs(X:Cx)(pos:Pos)(keys:List (Option Expr))(values:List Expr)(c:List (TE×TE)):Prop:=
 ∀(a:PLO) (s:Ui) (b:St) (H:Hp) (Q:List (V×V)->Hp->Prop),Inv X a b H s->Zd9 c b H Q->
  ⇑X (evalPairs (pairTrees keys values X.env pos)) (λf g=>∃d e,Inv X a b e g/\VV d f/\Q d e) X.xe s
def Yb2:PPs X pos [] [] []:=λa s b H Q I h=>pairTrees_nil_walk ([],H,I,.nil,h)
def Zv0{k v:Expr}{b:List (TE×TE)}(r:PE X k tk)(p:PE X v e)(q:PPs X pos ks vs b):
  PPs X pos (some k::ks) (v::vs) (#v[tk,e]::b):=λa s c H Q I h=>
 pairTrees_cons_walk (thn (r a s c H _ I h) λu g (x,C,z,j,n)=>thn (p a g c C _ z n) λE f (y,B,w,i,m)=>
  thn (q a f c B _ w m) λD F zz=>by let(o,A,t,d,l):=zz;show(#v[x,y]::o,A,t,.cons (j,i) d,l))
def N5(kvs a:List (Key×V)):List (Key×V):=a.foldl (λb c=>putK b c.1 c.2) kvs
def KV.merge:∀{a:List (Key×V)} {b:List (Key×Uh)} {kvs:List (Key×V)} {vs:List (Key×Uh)},KV a b->KV kvs vs->KV (N5 kvs a) (merged vs b):=by
 intro a b kvs vs r;ext r KV;induction r generalizing kvs vs with
 | nil=>intro q;show q
 | @cons p q g f h t d=>
  intro c;have e:KV (putK kvs p.1 p.2) (stored vs q.1 q.2):=by have:=c.put p.1 h.2;rw[<-h.1];show this
  show d e
def S6:∀(a kvs:List (Key×V)),(N5 kvs a).length<=kvs.length+a.length
 | [],kvs=>by change kvs.length<=kvs.length+0;lia
 | p::r,kvs=>by have c:=S6 r (putK kvs p.1 p.2);have b:=W5 kvs p.1 p.2;show(N5 (putK kvs p.1 p.2) r).length<=_;rw[Dy];lia
def Pp{w:Ul}:∀{kvs:List (Key×V)} {e:List (Uh×Uh)},VV (kvs.map λf=>#v[kV f.1,f.2]) e->∃d,Carries (Zl P w) e d/\KV kvs d
 | [],_,r=>by rw[Dh] at r;cases r;show([],Ld,.nil)
 | p::kvs,_,r=>by
  rw[Az] at r;cases r with
  | @cons a b k i h t=>let(d,c,q):=Pp (P:=P) (w:=w) t;let(j,g):=b;show(#v[p.1,g]::d,(Jg h.1,rfl,c),.cons (rfl,h.2) q)
def Ys8(b:List (TE×TE)):TE:=λe H Q=>∀p,H p=none->Zd9 b e (upd H p (.dK [])) λf d=>d p=some (.dK [])/\∃a:List (Key×V),f=a.map (λc=>#v[kV c.1,c.2])/\a.length<=15/\Q (.ref p) (upd d p (.dK (N5 [] a)))
def Ye4{keys:List (Option Expr)}{b:List (TE×TE)}(h:PPs X pos keys values b)(g:keys.all (·.isSome)=true)(B:keys.length=values.length)(h0:keys≠[])
  (k:keys.length<=15):PE X (.Dict keys values pos) (Ys8 b):=by
 intro d s m H Q I q;have A:=I.hok.fresh (na s⁻¹);have K:=I.laid (a:=s⁻¹) (o:= .dK []) (h':=s.heap.push {cls:= .type "dict",data:= .dict #[]}) (t':=s.toks) (λ_ _ q=>Ah _ q) (na _) (Z02 s.heap I.big);show wpAny_Dict_walk (knd:=Zl X.prog X.w) g B h0 k (thn (h d _ m _ _ K (q _ A)) λL M zz=>?_);let(N,R,l,j,e,f,G,O,u):=zz;subst G;let(p,c,r):=Pp (P:=X.prog) (w:=X.w) j;let(z,D,n,t,J):=Z99 l.hok e;cases t;show(p,c,J,λF i x=>(.ref s⁻¹,_,?_,rfl,u));have v:(N5 [] f).length<=sizeLine:=by have E:=S6 f [];rw[Ku] at E;rw[Mw];lia
 have C:∃q,F.get? s⁻¹=some q:=by let(q,_,_,y,_):=i;show(q,y)
 show Cz l (by rw[e];show Ld) x C (Z21 v D (r.merge .nil) i)
structure M1(X:Cx)(o:Expr)(m:Str)(apos:Pos)(e:Expr)(cpos:Pos):Prop where
 base:attributeBase o m X.env (eval o X.env)=eval o X.env
 few:((backTo cpos (starEach [e] X.env)).all (λx=> !x.1)&&(backToKw cpos (keywordEach [] X.env)).all (λx=>x.1.isSome)
  &&decide (([e]:List Expr).length+([]:List Keyword).length+(if ([]:List Keyword).isEmpty then 0 else 1)<30))=true
 line:(apos.endLine==cpos.line)=true
 trees:backTo cpos (starEach [e] X.env)=[#v[false,eval e X.env]]
structure M2(X:Cx)(o:Expr)(m:Str)(apos:Pos)(e f:Expr)(cpos:Pos):Prop where
 base:attributeBase o m X.env (eval o X.env)=eval o X.env
 few:((backTo cpos (starEach [e,f] X.env)).all (λx=> !x.1)&&(backToKw cpos (keywordEach [] X.env)).all (λx=>x.1.isSome)
  &&decide (([e,f]:List Expr).length+([]:List Keyword).length+(if ([]:List Keyword).isEmpty then 0 else 1)<30))=true
 line:(apos.endLine==cpos.line)=true
 trees:backTo cpos (starEach [e,f] X.env)=[#v[false,eval e X.env],#v[false,eval f X.env]]
section
variable{X:Cx}{pins:PLO}{σ:St}{H:Hp}{s:Ui}{a:Uj}{y d:V}{u r:Uh}{o:Option V}{A:Around}{E:VSP}
def Yg8(v:A.units+1<cLine)(I:'v')(g:DGet H a y o)(p:RelV y u)(q:RelV d r)(h:∀n s',Inv X pins σ H s'->RelV (o.getD d) n->Q n s'):
  wpAny (model X.prog X.w) A (call (.builtin "dict.get") [.ref a,u,r]) Q E s:=by
 rcases g with⟨i,k,e,m,l⟩|⟨i,k,b,e,m,x,l⟩
 .subst m;let(z,j,B,c,f):=Fx I.hok e;show call_meetsIn PySem.F.slot_dict_get f.typeIs PySem.F.entry_dict_get (PySem.F.args_dict_get_3 _ _ _) (meets_dict_get_default (Zl X.prog X.w) a (Jg p) j r) (_,f.mapOf,h _ _ (I.tok _) ?_);rw[l];show(c.val k).getD q
 .subst m;cases (show u=Value.ref b from p);let(z,j,t,c,f):=Z88 I.hok e;show call_meetsIn PySem.F.slot_dict_get f.typeIs PySem.F.entry_dict_get (PySem.F.args_dict_get_3 _ _ _) (meetsH_dict_get_default (tupleKind (Zl X.prog X.w)) a b j r) (Ms v,k,t,Nf I.hok x,f,h _ _ (I.tok _) ?_);rw[l];show(c.val k).getD q
end
section
variable{X:Cx}{pins:PLO}{σ:St}{H:Hp}{s:Ui}{a:Uj}{kvs:List (Key×V)}{A:Around}{E:VSP}
def Zt4(I:'v')(e:Rd H a (.dK kvs))(h:∀p s',H p=none->Inv X pins σ (upd H p (.dK kvs)) s'->Q (.ref p) s'):wpAny (model X.prog X.w) A (call (.type "dict") [.ref a]) Q E s:=by let(z,i,k,c,j):=Fx I.hok e;show kt_call_dict i j (by rw[<-c.length];show z) λl d g=>?_;show h _ _ (I.hok.fresh (na _)) (I.laid (a:=s⁻¹) (o:= .dK kvs) (t':=s.toks) (λb q f=>?_) (na _) (Z21 z (beq_eq_false_iff_ne.mpr (Il (nj I.big))) c d));show(g.2 b (nj (Dd f))).trans (Ah _ f)
end
end L2
namespace Att
open PySem PySem.W PySem.Calls PyProof.Rows
def Qg{P:Params}{h:Um}:∀(c:List Int) (vs:LW),WellAll P h vs (c.map WData.int)->IntsAre vs c:=by
 intro c;induction c with
 | nil=>intro vs w;rw[Dh] at w;cases w;show .nil
 | cons n c d=>
  intro vs w;rw[Az] at w;cases w with
  | cons a b=>cases a;show .cons _ _ (d _ b)
def script_of{l:OpenLaw}{n:Nat}(v:l.most=some n){P:Params}{h:Um}{args:List WData}{c:LW}
  (e:l.row.toRowW.claim.pre args=true) (k:WellAll P h c args):
  ∃a vs b,c=[Value.ref a]/\args=[WData.list (b.map WData.int)]/\h.get? a=some {cls:= .type "list",data:= .seq vs.toArray}/\IntsAre vs b/\b.length<=n:=by
 have m:WShape.hasAll [] args [.list .int]=true:=(pre_splitW e).1;have o:l.pre.holds [] {args:=args}=true:=(pre_splitW e).2;let(d,r,rfl,y,x):=hasAllW_cons m;obtain rfl:=hasAllW_nil x;let(z,rfl,w):=hasW_list y;let(b,rfl):=items_int w;have f:b.length<=n:=by
  ext o OpenLaw.pre;have j:(WTm.not (.lt (.lit (.int (n:Int))) (.len (.arg 0)))).holds [] {args:=[.list (b.map .int)]}=true:=by have j:=(holds_andW o).1;rw[v] at j;show j
  have i:=condW_of j (w_not (w_lt w_lit (w_len_list (w_arg rfl))));rw[Ai] at i;show Nat.le_of_not_lt λq=>?_;have t:(n:Int)< ((b.length:Nat):Int):='o'
  first
   |(rw[decide_eq_true t] at i;show absurd i 'd')
   |(simp at i;lia)
 cases k with
 | cons s p=>
  cases p;cases s with
  | list u g=>show(_,_,b,rfl,rfl,u,Qg b _ g,f)
def post_true(l:OpenLaw)(args:List WData):l.row.toRowW.claim.post args (.bool true) args=true:=
 postW_of (r:=l.row.toRowW) (X:=(true==true))
  (show WShape.has [] (.bool true) .bool=true by first | rfl | decide | simp[WShape.has,WShape.arms,WShape.armsAll])
  (show(WTm.eq .res (.lit (.bool true))).value [] {args:=args,res:=some (.bool true),after:=args}=some (.bool (true==true)) from w_eq_bool (w_res rfl) w_lit) rfl
end Att
namespace L2
open PySem PySem.Spec PyProof.Rows
def Wu:∀{vs:LW} {a:List Int},IntsAre vs a->Vals (a.map V.int) vs
 | _,_,.nil=> .nil
 | _,_,.cons n t h=> .cons (t,rfl) (Wu h)
abbrev CX0:CXT:=λ_ _ _ _ _ _=>False
abbrev E0:XK:=λ_ _ _=>False
structure Fun(K:Ae)(x qual:Str)(st:Stmt)(f:Uj)(fd:FuncData):Prop where
 ex:∃(oc:Uh) (od:Option Uj) (dV kV doc pm:Uh) (an:Option Uj) (cdv ct:Uh) (osl:Array (Option Uh)),
  fd=Kv x qual (Xj st) (Y1 st) (Z7 st) dV kV doc pm an cdv ct/\K.lookup f=some (oc,od,.func fd,osl)/\Mb K cdv qual=true
 kp:Hm K (.ref f)=true
section
variable{P:Uk}{w:Ul}{K:Ae}{mg:Str->Option Uh}{base:Um}
def Fun.ok{x qual:Str}{st:Stmt}{f:Uj}{g:FuncData}{N ps:LS}{k:Nat}{sp:Sp}(F:Fun K x qual st f g)(S:FnScope N ps (Z7 st))(c:∀vs H Q E,sp vs H Q E->vs.length=ps.length)
  (b:∀(a:Uh) (A:Around) (outer:List Env) (s:Ui) (H:Hp) (vs:LV) (Q:VK) (E:XK),Room k (A.deeper (envOfC qual (Z7 st) s⁻¹ f a))->sp vs H Q E->
   ∃t,PSs (cxOf CX0 P w K mg base N qual (Z7 st) f a A outer s H E).nox (Y1 st) t/\t {nx:=λ_ n=>Q .non n,rt:=Q} (start N vs) H):FnOk P w K mg base CX0 (k+1) f g ps sp:=by
 let(r,p,v,u,m,o,z,a,y,i,rfl,j,e):=F.ex;show Zz9 j e S c λA outer s H vs Q E l d=>?_;let(t,h,q):=b a A outer s H vs Q E l d;show(t,h.nox,q)
def Yo7{x qual:Str}{st:Stmt}{f:Uj}{m:Uh}{od j:Option Uj}{d:Array (Option Uh)}{h g b e a i:Uh}(l:K.lookup f=some (m,od,.func (Kv x qual (Xj st) (Y1 st) (Z7 st) h g b e j a i),d))
  (c:Mb K a qual=true) (k:Hm K (.ref f)=true):Fun K x qual st f (Kv x qual (Xj st) (Y1 st) (Z7 st) h g b e j a i):=((m,od,h,g,b,e,j,a,i,d,rfl,l,c),k)
end
section
variable{X:Cx}
def Zn8:Xm X (.builtin "len") (λxs H Q=>∃a kvs,xs=[V.ref a]/\H a=some (.dK kvs)/\Q (.int kvs.length) H):=by intro b s f H xs g Q I r h;let(a,kvs,rfl,d,q):=h;let(u,rfl,c):=Vz r;cases c;show Yv7 I (.inl d) λt i e=>(.int kvs.length,H,e,(t,rfl),q)
end
end L2
namespace L3
open PySem PySem.Spec PyProof.Rows L2
def Bits(n:Nat)(x:Int):Prop:=x.natAbs<2 ^ n
def Z85{m n:Nat}(h:m<2 ^ n)(a:0<n):m.log2<n:=by
 rcases Nat.eq_zero_or_pos m with h0|h0
 .rw[h0];show a
 .exact(Nat.log2_lt (nq h0)).mpr h
def N8{n:Nat}{x:Int}(h:Bits n x):Builtin.Int.intBits x<=n:=by
 ext Builtin.Int.intBits;split
 .show nk _
 .rename_i b;have c:x≠0:=by simpa using b
  have a:x.natAbs≠0:='o';show(Nat.log2_lt a).mpr h
def Bits.mono{n m:Nat}{x:Int}(h:Bits n x)(k:n<=m):Bits m x:=nh h (Nat.pow_le_pow_right 'd' k)
def Bits.add{n:Nat}{x y:Int}(b:Bits n x)(a:Bits n y):Bits (n+1) (x+y):=by unfold Bits at *;rw[Nat.pow_succ];lia
def Zp3{n m:Nat}{a b:Int}(f:Bits n a)(e:Bits m b)(h:n+m<=134217728):IntMulOk a b:=by ext IntMulOk;intro z;have i:=N8 f;have g:=N8 e;rw[Bz9] at z;have c:=z.2;ext c Builtin.Int.intTooBig;have d:=of_decide_eq_true c;rw[bitsLine_eq] at d;lia
section
variable{X:Cx}
def Z60(_ j:Int):Prop:=j≠0/\j.natAbs.log2<9000
def Zt5:OpR X (binaryOp .FloorDiv) (rI Z60 λi j=> .int (i.fdiv j)):=opI λ_ _ _ _ _ _ _ a q=>floordiv_int a.1 q (.inl (PyProof.noPylong_of_log2 a.2))
def Y70:OpR X (binaryOp .Mult) (rI IntMulOk λi j=> .int (i * j)):=opI λ_ _ _ _ _ _ _ a q=>mul_int q a
def rIsB(K:Ae):LV->Hp->VK->Prop:=λa H Q=>∃x n t b,a=[x,.ty n]/\TyOf K H x t/\Kk K t (.type n)=some b/\Q (.bl b) H
def Zp8:Xm X (.builtin "isinstance") (rIsB X.K):=by intro a s i H j k Q I r h;let(x,n,t,b,rfl,c,e,q):=h;let(u,v,rfl,g,f):=Ct r;obtain rfl:v=Value.type n:=f;show Zb8 I g c e λd=>(.bl b,H,I.tok d,rfl,q)
end
mutual
def Rep(K:Ae)(H:Hp):PyData->V->Prop
 | .none,v=>v= .non
 | .bool b,v=>v= .bl b
 | .int i,v=>v= .int i
 | .str x,v=>v= .str x
 | .list d,v=>∃a c,v= .ref a/\SqL K H a c/\Xw K H d c
 | .tuple d,v=>∃a c,v= .ref a/\SqT K H a c/\Xw K H d c
 | .dict _,_=>False
def Xw(K:Ae)(H:Hp):List PyData->LV->Prop
 | [],a=>a=[]
 | d::c,a=>∃v b,a=v::b/\Rep K H d v/\Xw K H c b
end
section
variable{X:Cx}{pins:PLO}{σ:L2.St}{H:Hp}{s:Ui}
mutual
theorem Rep.reads(I:'v'):∀(d:PyData) (v:V) (u:Uh),Rep X.K H d v->RelV v u->∃w,Reads s.heap u d w
 | .none,v,u,h,r=>by ext h Rep;subst h;cases (show u=Value.none from r);show([],.none)
 | .bool b,v,u,h,r=>by ext h Rep;subst h;cases (show u=Value.bool b from r);show([],.bool b)
 | .int i,v,u,h,r=>by ext h Rep;subst h;let(t,rfl):=(show ∃t,u=Value.int i t from r);show([],.int i t)
 | .str x,v,u,h,r=>by ext h Rep;subst h;let(t,rfl):=(show ∃t,u=Value.str x t from r);show([],.str x t)
 | .list q,v,u,h,r=>by ext h Rep;let(a,e,rfl,j,k):=h;cases (show u=Value.ref a from r);let(c,f,(o,n,p,m,_,l),_):=I.list j;let(w,g):=Xw.reads I q e c k f;show(_,.list p m l g)
 | .tuple q,v,u,h,r=>by ext h Rep;let(a,e,rfl,j,k):=h;cases (show u=Value.ref a from r);let(c,f,(o,p,m,n,l),_):=I.tuple j;let(w,g):=Xw.reads I q e c k f;show(_,.tuple p m l g)
 | .dict y,v,u,h,r=>by ext h Rep;show h.elim
theorem Xw.reads(I:'v'):∀(a:List PyData) (xs:LV) (us:LW),Xw X.K H a xs->Vals xs us->∃b,ReadsAll s.heap us a b
 | [],xs,us,h,r=>by ext h Xw;subst h;cases r;show([],.nil)
 | d::a,xs,us,h,r=>by
  ext h Xw;let(v,c,rfl,k,j):=h;cases r with
  | cons f e=>let(b,i):=Rep.reads I d v _ k f;let(l,g):=Xw.reads I a c _ j e;show(_,.cons i g)
end
end
section
variable{X:Cx}
def rEqD(K:Ae)(c:Bool):R2:=λx y H Q=>∃b a,Rep K H b x/\Rep K H a y/\b.canLay0=true/\a.canLay0=true/\min b.depth a.depth<=60/\Q (.bl (if c then !PyData.eqv b a else PyData.eqv b a)) H
def Yk2(n:X.A.units+64<cLine):OpR X (compareOp .Eq) (rEqD X.K false):=by intro a s m H x y v u Q I c b h;let(l,k,j,i,g,f,o,q):=h;let(r,e):=Rep.reads I l x v j c;let(p,d):=Rep.reads I k y u i b;show PySem.SeqAt.compareEq_reads e d g f 'o' (.bl _,H,I,rfl,q)
end
end L3
namespace L3
open PySem PySem.W PySem.Calls PyProof.Rows L2
def bigN:Nat:=1048576
def Qr:∀(a:List Int) (i:Int),i∈a->WData.weight (.int i)<=WData.weightAll (a.map WData.int)
 | [],_,h=>nomatch h
 | n::r,i,h=>by
  rw[Az];have e:WData.weightAll (WData.int n::r.map WData.int)=WData.weight (.int n)+1+WData.weightAll (r.map WData.int):=by simp[WData.weightAll]
  rw[e];rcases Ak.mp h with q|q
  .subst q;lia
  .have:=Qr r i q;lia
def Qq{a:List Int}(h:WData.layableAll [WData.list (a.map WData.int)]=true):∀i∈a,Bits bigN i:=by
 intro i e;have b:WData.layable (WData.list (a.map WData.int))=true:=by simpa[WData.layableAll] using h
 ext b WData.layable;rw[Bz9] at b;have l:WData.weight (WData.list (a.map WData.int))<=2 ^ 20:=of_decide_eq_true b.2;have k:WData.weight (WData.list (a.map WData.int))=WData.weightAll (a.map WData.int):=by simp[WData.weight]
 have j:=Qr a i e;have c:WData.weight (.int i)=if i==0 then 0 else i.natAbs.log2+1:=by simp[WData.weight]
 unfold Bits bigN;by_cases d:i=0
 .subst d;show Nat.two_pow_pos _
 .have f:(i==0)=false:=by simpa using d
  rw[f] at c;have g:i.natAbs.log2<1048576:=by have:(2:Nat) ^ 20=1048576:='d';erw[Bool.false_eq_true,if_false] at c;lia
  show(Nat.log2_lt 'o').mp g
def E3{l:OpenLaw}{n:Nat}{q:Uk}{loose:LS}{XP:(Str->Option Uh)->Um->Prop}{YP:Ul->Um->Prop}{d:DefRec}(E:l.most=some n)(J:d.params.defaults=[])
  (s:∀(w:Ul) (c b:Ui) (mg v:Str->Option Uh) (u:Uj) (o:Obj) (A cd p:Uh) (a:Uj) (vs:LW) (g:List Int),
   Ground q loose [] XP w c mg v b.heap->YP w b.heap->mg d.name=↑u->
   b.heap.get? a=some {cls:= .type "list",data:= .seq vs.toArray}->IntsAre vs g->g.length<=n->(∀i∈g,Bits bigN i)->b.gens=#[]->
   codeAny (model l.prog w) callerA (.call (.ref u) ([.ref a],[])) (λr t=>r= .ok (.ret (.bool true))/\OldK b.heap t.heap/\t.os=b.os/\AllBare t.gens) b):
  WalkO q loose XP YP l.row.toRowW d [] (λf vs=>PySem.call f vs):=by
 intro w c b mg v G Y u o A cd p S O P Q K R y I B z T h m C x H;let(a,vs,g,rfl,rfl,j,e,k):=Att.script_of E h x;show enter_call (Kw (s w c b mg v u o A cd p a vs g G Y y j e k (Qq m) I) λr t D=>?_);let(rfl,N,M,L):=D;show(.inl (.bool true,.bool true,[],rfl,λ_=>rfl,.bool true,Att.post_true l _,λ_=>(Tr.nil,λ_ F=>(nomatch F))),N,M,L)
end L3
namespace L3
open PySem
section
variable{P:Uk}{w:Ul}{A:Around}{R:Result->Ui->Prop}{s:Ui}{elt tg iter c:Expr}{scope:Scope}{pos:Pos}{it acc:Uh}{env:Env}
abbrev noE:VSP:=λ_ _=>False
def Z77(I:Nat->Ui->Prop)
  (a:∀n s,I n s->wpAny (model P w) A (pyNext it) (λr b=>match r with
   | none=>R (.ok .next) b
   | some v=>wpAny (model P w) A (letOwnedTupleGo tg it v) (λ_ i=>wpAny (model P w) A (assign tg env v) (λ_ g=>wpAny (model P w) A (eval elt env) (λx e=>
     wpAny (model P w) A (call (.builtin "list.append") [acc,x]) (λ_ d=>∃m,m<n/\I m d) noE e) noE g) noE i) noE b) noE s)
  (n:Nat) (h:I n s):codeAny (model P w) A (.compLoop (.ListComp elt [(tg,iter,[],0)] scope pos) 0 it acc env) R s:=by
 show codeAny_loop rfl I (λm z k=>?_) n h;change wpAny _ A ((compTurn (.ListComp elt [(tg,iter,[],0)] scope pos) 0 it acc env).onRaise λx=>do noteFrame x env;theTreesLotGoes x) _ _ z;show wpAny_noted ?_;rw[compTurn_list1];show Ac (Mn (Ac (Hl (a m z k) (λr b j=>?_) λ_ _ f=>f.elim)));cases r with
 | none=>show Ao j
 | some v=>show Ac (Hl j (λ_ i q=>?_) λ_ _ f=>f.elim);show Ac (Hl q (λ_ g p=>?_) λ_ _ f=>f.elim);show Ac (Ac (Hl p (λx e o=>?_) λ_ _ f=>f.elim));show Ac (Hl o (λ_ d l=>Ao (Ao (rfl,l))) λ_ _ f=>f.elim)
def Za1(I:Nat->Ui->Prop)
  (a:∀n s,I n s->wpAny (model P w) A (pyNext it) (λr d=>match r with
   | none=>R (.ok .next) d
   | some v=>wpAny (model P w) A (letOwnedTupleGo tg it v) (λ_ k=>wpAny (model P w) A (assign tg env v) (λ_ j=>wpAny (model P w) A (isTrue c env (eval c env)) (λe b=>
     if e=true then wpAny (model P w) A (eval elt env) (λx i=>wpAny (model P w) A (call (.builtin "list.append") [acc,x]) (λ_ g=>∃m,m<n/\I m g) noE i) noE b
     else ∃m,m<n/\I m b) noE j) noE k) noE d) noE s)
  (n:Nat) (h:I n s):codeAny (model P w) A (.compLoop (.ListComp elt [(tg,iter,[c],0)] scope pos) 0 it acc env) R s:=by
 show codeAny_loop rfl I (λm z p=>?_) n h;change wpAny _ A ((compTurn (.ListComp elt [(tg,iter,[c],0)] scope pos) 0 it acc env).onRaise λx=>do noteFrame x env;theTreesLotGoes x) _ _ z;show wpAny_noted ?_;rw[compTurn_list];show Ac (Mn (Ac (Hl (a m z p) (λr d o=>?_) λ_ _ f=>f.elim)));cases r with
 | none=>show Ao o
 | some v=>
  show Ac (Hl o (λ_ k y=>?_) λ_ _ f=>f.elim);show Ac (Hl y (λ_ j u=>?_) λ_ _ f=>f.elim);show Ac (wpAny_tests_one (Hl u (λe b l=>?_) λ_ _ f=>f.elim));cases e with
  | false=>show Ao (rfl,l)
  | true=>show Ac (Ac (Hl l (λx i t=>?_) λ_ _ f=>f.elim));show Ac (Hl t (λ_ g q=>Ao (Ao (rfl,q))) λ_ _ f=>f.elim)
end
def Sg:∀(b:List (Str×NameKind)) (a:List (Str×Uj)),(∀n,#v[n,Hi]∈b->∃c,env.cells.lookup n=some c)->
  (∀x c,a.lookup x=some c->env.cells.lookup x=some c)->
  ∃g,(forIn b a fun(x:Str×NameKind) (y:List (Str×Uj))=>match x with
   |#v[f,l]=>if (l==Hi)=true then do let c <-cellOf env f;pure (ForInStep.yield (#v[f,c]::y)) else pure (ForInStep.yield y):Sem (List (Str×Uj)))=pure g/\
   (∀x c,g.lookup x=some c->env.cells.lookup x=some c)/\(∀n,#v[n,Hi]∈b->∃c,g.lookup n=some c)/\∀x c,a.lookup x=some c->∃A,g.lookup x=some A
 | [],a,_,p=>(a,rfl,p,(λ_ h=>nomatch h),λx c e=>(c,e))
 |#v[n,k]::r,a,s,p=>by
  by_cases t:k= .free
  .subst t;let(c,w):=s n Aw;let(g,e,v,u,o):=Sg r (#v[n,c]::a) (λm j=>s m (An _ j)) (λx d i=>by
    rw[Ij] at i;cases q:x==n with
    | true=>rw[q] at i;cases i;rw[Ll q];show w
    | false=>rw[q] at i;show p x d i)
   show(g,?_,v,λm j=>?_,λx d i=>?_)
   .rw[List.forIn_cons];show(bind (bind (cellOf env n) _) _:Sem _)=_;ext cellOf;rw[w];show e
   .rcases Ak.mp j with q|q
    .cases q;show o n c (by simp[Ij])
    .show u m q
   .cases q:x==n with
    | true=>show o x c (by rw[Ij,q])
    | false=>show o x d (by rw[Ij,q];show i)
  .have z:(k==Hi)=false:=by simpa using t
   let(g,e,v,u,o):=Sg r a (λm j=>s m (An _ j)) p;show(g,?_,v,λm j=>?_,o)
   .rw[List.forIn_cons];show(bind (if (k==Hi)=true then _ else _) _:Sem _)=_;rw[z];show e
   .rcases Ak.mp j with q|q
    .cases q;show absurd rfl t
    .show u m q
def Ob(hn:∀n,#v[n,Hi]∈scope.names->∃c,env.cells.lookup n=some c):
  ∃cl,closureFor scope env=pure cl/\(∀x c,cl.lookup x=some c->env.cells.lookup x=some c)/\∀n,#v[n,Hi]∈scope.names->∃c,cl.lookup n=some c:=by
 let(cl,e,h1,h2,_):=Sg scope.names [] hn (λx c h=>by cases h);show(cl,?_,h1,h2);show(congrArg (λt:Sem (List (Str×Uj))=>bind t λz=>pure z) e).trans rfl
end L3
namespace L3
open PySem PySem.Spec PyProof.Rows L2
def cxC(X:Cx)(b:LS)(scope:Scope)(a:List (Str×Uj))(C:Uj)(fp:List Uj)(pins:PLO)(s:Ui)(H:Hp):Cx where
 prog:=X.prog
 w:=X.w
 K:=X.K
 mg:=X.mg
 base:=X.base
 A:=X.A
 N:=b
 s₀:=s
 H₀:=H
 env:=compEnvC scope a C X.env
 outer:=X.stack
 stack:=X.stack
 ex:=fp
 fn:=λx=>scope.names.any λy=>y.1==x&&y.2== .cell
 calm:=X.calm
 pn:=X.pn++pins
 xe:=noE
def Y3(scope a:Scope):Scope:=
 {scope with names:=scope.names.map fun#v[n,k]=>if (k== .free&&a.kind== .function&&a.names.lookup n==some .cell) then#v[n,.cell] else#v[n,k]}
def Rz(js:List (Option Nat))(a:L2.St):L2.St:=js.map λo=>o.bind λj=>(a[j]?).join
structure CompScope(dsc:Scope)(dN N':LS)(js:List (Option Nat))(scope:Scope):Prop where
 kind:scope.kind= .function
 nd:(scope.names.map (·.1)).Nodup
 loc:∀y∈scope.names,y.2= .local->scope.names.lookup y.1=some .local
 len:js.length=N'.length
 cap:∀(i:Nat) (x:Str) (j:Nat),N'[i]?=some x->js[i]?=some (some j)->dN[j]?=some x/\#v[x,Hi]∈scope.names
 free:∀n,#v[n,Hi]∈scope.names->dsc.names.lookup n=some .cell\/dsc.names.lookup n=some .free
 seen:∀n,#v[n,Hi]∈scope.names->(Y3 scope dsc).names.lookup n=some .cell\/(Y3 scope dsc).names.lookup n=some .free
def Xg(a:Scope)(c b:LS)(js:List (Option Nat))(scope:Scope):Bool:=
 scope.kind== .function&&decide ((scope.names.map (·.1)).Nodup)&&scope.names.all (λy=>y.2 != .local || scope.names.lookup y.1==some .local)&&js.length==b.length&&
 (b.zip js).all (λp=>match p.2 with | some j=>c[j]?==some p.1&&scope.names.contains #v[p.1,Hi] | none=>true)&&
 scope.names.all (λy=>y.2 != .free || ((a.names.lookup y.1==some .cell || a.names.lookup y.1==some .free)&&((Y3 scope a).names.lookup y.1==some .cell || (Y3 scope a).names.lookup y.1==some .free)))
def CompScope.of{a:Scope}{e c:LS}(h:Xg a e c js scope=true):CompScope a e c js scope:=by
 ext h Xg;erw[Bz9,Ia,beq_iff_eq,bne_iff_ne,Bool.or_eq_true,decide_eq_true_eq] at h;let(((((r,p),o),m),l),d):=h;show(r,p,λy f k=>(o y f).resolve_left λz=>z k,m,λi x j t s=>?_,λn b=>?_,λn b=>?_)
 .have g:#v[x,some j]∈c.zip js:=Am (i:=i) (by rw[List.getElem?_zip_eq_some];show(t,s));have q:=l _ g;erw[Bz9,beq_iff_eq,Iw] at q;show q
 .exact((d _ b).resolve_left λz=>z rfl).1
 .exact((d _ b).resolve_left λz=>z rfl).2
def Vo{env:Env}{x:Str}{k:NameKind}:∀{a:List (Str×NameKind)},
  (a.map fun#v[n,k]=>if (k==Hi&&env.scope.kind== .function&&env.kindOf n==some .cell) then#v[n,Io] else#v[n,k]).lookup x=some k->(k= .cell\/k= .free)->#v[x,Hi]∈a\/#v[x,Io]∈a
 | [],h,_=>by simp at h
 |#v[n,q]::r,h,f=>by
  rw[Az] at h;by_cases d:x=n
  .subst d;have i:q= .free\/q= .cell:=by
    by_cases c:(q==Hi&&env.scope.kind== .function&&env.kindOf x==some .cell)=true
    .rw[Bz9,Bz9] at c;show .inl (Ll c.1.1)
    .simp only[if_neg c] at h;rw[Ij,beq_self_eq_true] at h;have e:q=k:=Hb h;rcases f with z|z
     .show .inr (e.trans z)
     .show .inl (e.trans z)
   rcases i with rfl|rfl
   .show .inl Aw
   .show .inr Aw
  .have g:(x==n)=false:=by simpa using d
   have b:(r.map fun#v[n,k]=>if (k==Hi&&env.scope.kind== .function&&env.kindOf n==some .cell) then#v[n,Io] else#v[n,k]).lookup x=some k:=by
    by_cases c:(q==Hi&&env.scope.kind== .function&&env.kindOf n==some .cell)=true
    .simp only[if_pos c] at h;rw[Ij,g] at h;show h
    .simp only[if_neg c] at h;rw[Ij,g] at h;show h
   show(Vo (env:=env) b f).imp (An _) (An _)
structure BlockCells(X:Cx)(scope:Scope)(cl:List (Str×Uj))(sz:Nat)(h1:Um):Prop where
 each:∀x c,cl.lookup x=some c->X.env.cells.lookup x=some c\/(sz<c/\h1.IsCell c none)
 free:∀n,#v[n,Hi]∈scope.names->∃c,cl.lookup n=some c/\X.env.cells.lookup n=some c
 own:∀n,#v[n,Io]∈scope.names->∃c,cl.lookup n=some c/\sz<c
 inj:∀x y c,cl.lookup x=some c->cl.lookup y=some c->sz<c->x=y
def Tn{x:Str}:∀(a:List (Str×NameKind)) (n:Nat) (b:List (Str×Uj)),#v[x,Io]∉a->(cellsFrom n a b).lookup x=b.lookup x
 | [],_,_,_=>rfl
 |#v[y,k]::r,n,b,h=>by
  have d:#v[x,Io]∉r:=λz=>h (An _ z);ext cellsFrom;split
  .rename_i f;have c:(x==y)=false:=by rw[beq_eq_false_iff_ne];intro e;apply h;rw[e,<-Ll f];show Aw
   rw[Tn r _ _ d,Ij,c]
  .show Tn r n b d
def Ph{x:Str}:∀(a:List (Str×NameKind)) (n:Nat) (b:List (Str×Uj)),#v[x,Io]∈a->∃c,(cellsFrom n a b).lookup x=some c/\n<=c
 | [],_,_,h=>by cases h
 |#v[y,k]::r,n,b,h=>by
  ext cellsFrom;by_cases d:#v[x,Io]∈r
  .split
   .let(c,e,l):=Ph r (n+1) (#v[y,n]::b) d;show(c,e,'o')
   .show Ph r n b d
  .rcases Ak.mp h with e|e
   .cases e;rw[ng (by rfl),Tn r _ _ d,Ij,beq_self_eq_true];show(n,rfl,na _)
   .show absurd e d
def Vs:∀(b:List (Str×NameKind)) (n:Nat) (a c:List (Str×Uj)),∃own,cellsFrom n b (a++c)=own++c/\cellsFrom n b a=own
 | [],n,a,c=>(a,rfl,rfl)
 |#v[y,k]::r,n,a,c=>by
  ext cellsFrom;split
  .show Vs r (n+1) (#v[y,n]::a) c
  .show Vs r n a c
def Vh{x:Str}{c:Uj}:∀{a b:List (Str×Uj)},(a++b).lookup x=some c->a.lookup x=some c\/b.lookup x=some c
 | [],b,h=> .inr h
 |#v[y,d]::a,b,h=>by
  rw[Kh,Ij] at h;rw[Ij];cases e:x==y with
  | true=>rw[e] at h;show .inl h
  | false=>rw[e] at h;show Vh h
def Z78{H:Hp}{s:Ui}{i:List (Str×Uj)}(E:(scope.names.map (·.1)).Nodup)(I:Inv X pins C H s)(o:Obj)
  (c1:∀x c,i.lookup x=some c->X.env.cells.lookup x=some c) (c2:∀n,#v[n,Hi]∈scope.names->∃c,i.lookup n=some c):
  BlockCells X scope (cellsFrom (s⁻¹+1) scope.names i) s⁻¹ (pushCells (s.heap.push o) scope.names):=by
 let(D,g,f):=Vs scope.names (s⁻¹+1) [] i;rw[Mr] at g;have p:=cellsFrom_ok scope.names (s.heap.push o) (s⁻¹+1) [] (λ_ _ G=>(nomatch G),Tr.nil) (by rw[Ln];show na _);rw[Ln,f] at p;have j:∀x c,i.lookup x=some c->c<s⁻¹:=by intro x c e;let(v,q):=I.cell x c (c1 x c e);show q.lt
 have m:∀{n:Str},#v[n,Hi]∈scope.names->#v[n,Io]∉scope.names:=by
  intro n K J;have t:∀(l:List (Str×NameKind)),(l.map (·.1)).Nodup->#v[n,Hi]∈l->#v[n,Io]∈l->False:=by
   intro l;induction l with
   | nil=>intro _ h;cases h
   | cons y r F=>
    intro d a b;rw[Az,Hq] at d;rcases Ak.mp a with g|B
    .rcases Ak.mp b with f|u
     .rw[<-g] at f;cases f
     .show d.1 (Ar.mpr (_,u,by rw[<-g]))
    .rcases Ak.mp b with f|u
     .show d.1 (Ar.mpr (_,B,by rw[<-f]))
     .show F d.2 B u
  show t _ E K J
 show(λx c e=>?_,λn d=>?_,λn d=>?_,λx y c A w k=>?_)
 .rw[g] at e;rcases Vh e with z|z
  .let(a,b):=p.empty x c (mem_of_lookup z);show .inr (b,a)
  .show .inl (c1 x c z)
 .let(c,k):=c2 n d;show(c,?_,c1 n c k);rw[Tn _ _ _ (m d)];show k
 .let(c,a,b):=Ph scope.names (s⁻¹+1) i d;show(c,a,b)
 .rw[g] at A w;rcases Vh A with z|z
  .rcases Vh w with z2|z2
   .show name_of_addr p.apart (mem_of_lookup z) (mem_of_lookup z2)
   .show absurd (j y c z2) (Nat.lt_asymm k)
  .show absurd (j x c z) (Nat.lt_asymm k)
def Za7{M:Model}{A:Around}{E:VSP}{s:Ui}{scope:Scope}{a:Uj}{f:List (Str×Uj)}{qual:Str}{o:Env}{Q:Env->Ui->Prop}
  (g:Q {scope:=scope,locals:=s⁻¹,globals:=a,cells:=cellsFrom (s⁻¹+1) scope.names f,qual:=qual,func:=none,code:=o.code,frame:=o.frame,builtins:=o.builtins} {s with heap:=pushCells (s.heap.push {cls:= .type "dict",data:= .dict #[]}) scope.names}):
  wpAny M A (newFunctionEnv scope a f [] qual none .none (some o)) Q E s:=by
 erw[newFunctionEnv,Option.isSome_some,if_true];show Ac (wpAny_alloc ?_);show Ac (wpAny_layCells _ (λe b d=>by cases c:b==Io<;>simp[c]) _ _ _ _ ?_);rw[show({s with heap:=s.heap.push {cls:= .type "dict",data:= .dict #[]}}:Ui).heap.objs.size=s⁻¹+1 from Ln ..];rw[List.forIn_nil];show Ac (Ao (Ao g))
section
variable{X:Cx}{elt tg iter c:Expr}{scope:Scope}{pos:Pos}{N':LS}{js:List (Option Nat)}{wi:TI}{g:TG}{te:TE}{tc:TT}
def Z92{H:Hp}{s:Ui}{W:List (Str×Uj)}{w:Um}(S:CompScope X.env.scope X.N N' js scope)(I:Inv X pins A H s)
  (f:BlockCells X scope W s⁻¹ w) (P:∀b∈fp,FpOk X pins H b) (D:∀b∈fp,b<s⁻¹)
  (hn:w.Ns s⁻¹ m) (E:∀b o,s.heap.get? b=some o->w.get? b=some o):
  Inv (cxC X N' scope W s⁻¹ fp pins s H) [] (Rz js A) H {s with heap:=w,toks:=tk}:=by
 have Z:(cxC X N' scope W s⁻¹ fp pins s H).Ok:=by
  show(I.ok.mod,S.kind,I.ok.glob,I.ok.blt,na _,λx y c w T=>?_,λx C=>?_,λx c C e=>?_,I.ok.hd,I.ok.frames,.inl rfl,λb B=>(nj (D b B),λx c e=>?_),
   I.bs,ni I.ok.bsz I.sz,λb o e B=>?_,λb B C=>?_,I.stack,I.stkFree)
  .rcases f.each x c w with z|z
   .rcases f.each y c T with z2|z2
    .show I.ok.inj x y c z z2
    .show f.inj x y c w T z2.1
   .show f.inj x y c w T z.1
  .have h:(relabel scope X.env).names.lookup x=some .cell\/(relabel scope X.env).names.lookup x=some .free:=C;have t:#v[x,Hi]∈scope.names\/#v[x,Io]∈scope.names:=by
    rcases h with z|z
    .show Vo z (.inl rfl)
    .show Vo z (.inr rfl)
   rcases t with z|z
   .let(c,e,_):=f.free x z;show(c,e)
   .let(c,e,_):=f.own x z;show(c,e)
  .have h:(scope.names.any λy=>y.1==x&&y.2==Io)=true:=C;rw[Lo] at h;let((y,k),t,L):=h;rw[Bz9] at L;have V:y=x:=Ll L.1;have U:k= .cell:=Ll L.2;subst V U;let(Y,e',l):=f.own _ t;have:Y=c:=Hb (e'.symm.trans e);subst this;show mf l
  .rcases f.each x c e with z|z
   .exact(P b B).2.2.2.2.1 x c z
   .show λq=>absurd z.1 (Nat.lt_asymm (by rw[q];show D b B))
  .let(_,_,_,f3,_):=P b B;rcases f3 with z|z
   .show I.ok.noex b o e z
   .show absurd (nh (Dd e) (ni I.ok.bsz z)) (nv _)
  .let(_,f1,f2,_):=P b B;rcases Ak.mp (I.stkSub b C) with z|z
   .show f1 z
   .show f2 z
 show(Z,rfl,I.bare,Un.kept E,(m,hn,λi x v V U e3=>?_),λx c e=>?_,I.hok.fresh (na _),λx c e=>(f.each x c e).elim (λz=>I.freeC x c z) (λz=>I.hok.fresh (mf z.1)),λp hp=>?_,I.hok.kept E,?_)
 .have a:(Rz js A)[i]?=some (some v):=U;ext a Rz;rw[Ch] at a;cases q:js[i]? with
  | none=>rw[q] at a;cases a
  | some o=>
   rw[q] at a;cases o with
   | none=>cases a
   | some j=>
    have J:(A[j]?).join=some v:=Hb a;let(hN,t):=S.cap i x j V q;have K:A[j]?=some (some v):=by
     cases z:A[j]? with
     | none=>rw[z] at J;cases J
     | some o=>rw[z] at J;show congrArg some J
    let(m0,z0,hl):=I.loc;let(c,hc,R):=f.free x t;have hv:Vis X.env.scope x:=(S.free x t).elim (λz=> .inr (.inl z)) λz=> .inr (.inr z);let(u,r,l):=hl j x v hN K hv;show(u,r,.inr (?_,c,hc,?_))
    .show S.seen x t
    .rcases l with⟨kl,_⟩|⟨_,Y,F,G⟩
     .rcases S.free x t with y|y<;>(have z:=y.symm.trans (show X.env.scope.names.lookup x=some .local from kl);cases z)
     .rw[R] at F;cases F;let(o,O,Q):=G;show(o,E _ _ O,Q)
 .rcases f.each x c e with z|z
  .let(v,o,O,Q):=I.cell x c z;show(v,o,E _ _ O,Q)
  .exact(none,z.2)
 .have M:p∈X.pn++pins:=(Ap.mp hp).elim (λz=>z) λz=>absurd z 's';let(e,n,ne,nf,d):=I.pin p M;show(E _ _ e,n,nj (Dd e),λz=>?_,d);rcases Ak.mp (I.stkSub p.1 z) with y|y
  .show ne y
  .show nf y
 .show(Rz js A).length=N'.length;ext Rz;rw[Ai];show S.len
end
section
variable{X:Cx}{elt tg iter c:Expr}{cs:List Expr}{scope:Scope}{pos:Pos}{N':LS}{js:List (Option Nat)}{wi:TI}{g:TG}{te:TE}{tc:TT}
def Yo3(js:List (Option Nat))(wi:TI)(g:TG)(te:TE):TE:=λf H Q=>wi f H λJ k=>∀D,k D=none->∃W:Nat->Nat->L2.St->Hp->Prop,(∃m,W 0 m (Rz js f) (upd k D (.lst [])))/\
 ∀i m b e,W i m b e->(J.stop i e/\Q (.ref D) e)\/(J.go i e/\∀x l,J.yld i e x l->g x b l λd n=>te d n λy j=>∃a,j D=some (.lst a)/\a.length<sizeLine/\
  ∃h,h<m/\W (i+1) h d (upd j D (.lst (a++[y]))))
def Zh5(js:List (Option Nat))(wi:TI)(g:TG)(tc:TT)(te:TE):TE:=λj H Q=>wi j H λJ n=>∀D,n D=none->∃W:Nat->Nat->L2.St->Hp->Prop,(∃m,W 0 m (Rz js j) (upd n D (.lst [])))/\
 ∀i m e h,W i m e h->(J.stop i h/\Q (.ref D) h)\/(J.go i h/\∀x o,J.yld i h x o->g x e o λa p=>tc a p λb l=>if b=true then te a l λy k=>∃d,k D=some (.lst d)/\d.length<sizeLine/\
  ∃f,f<m/\W (i+1) f a (upd k D (.lst (d++[y]))) else ∃f,f<m/\W (i+1) f a l)
def Ya5(te:TE)(W:Nat->Nat->L2.St->Hp->Prop)(D:Uj)(m i:Nat)(σ:L2.St):Bool->Hp->Prop:=λb H=>if b=true then te σ H λy H4=>∃acc,H4 D=some (.lst acc)/\acc.length<sizeLine/\∃m',m'<m/\W (i+1) m' σ (upd H4 D (.lst (acc++[y]))) else ∃m',m'<m/\W (i+1) m' σ H
def Cks(X:Cx)(N':LS)(scope:Scope)(cs:List Expr)(tc:TT):Prop:=(cs=[]/\tc=λ_ H Q=>Q true H)\/∃c,cs=[c]/\∀cl C fp pins s H,PT (cxC X N' scope cl C fp pins s H) c tc
def Z27{M:Model}{A:Around}{it:Uh}{env:Env}{N:Ui->Prop}{F F':Ui->Prop}{z:Ui}(h:wpAny M A (pyNext it) (λr d=>match r with
   | none=>N d
   | some v=>wpAny M A (letOwnedTupleGo tg it v) (λ_ k=>wpAny M A (assign tg env v) (λ_ j=>F j) noE k) noE d) noE z) (f:∀j,F j->F' j):wpAny M A (pyNext it) (λr d=>match r with
   | none=>N d
   | some v=>wpAny M A (letOwnedTupleGo tg it v) (λ_ k=>wpAny M A (assign tg env v) (λ_ j=>F' j) noE k) noE d) noE z:=
 thn h λr d q=>by
  cases r with
  | none=>show q
  | some v=>show thn q λ_ k q=>thn q λ_ j q=>f j q
def Nk{pins:PLO}{σ:L2.St}{H2:Hp}{s2:Ui}{cl:List (Str×Uj)}{it:Uj}{fp:List Uj}{tn:Nat->Um->Prop}{J:It}{QD:Uj->Hp->Prop}{R:Uh->Uj->Result->Ui->Prop}{E:VSP}
  (hc:X.calm=true) (S:CompScope X.env.scope X.N N' js scope) (c1:∀x c,cl.lookup x=some c->X.env.cells.lookup x=some c) (c2:∀n,#v[n,Hi]∈scope.names->∃c,cl.lookup n=some c)
  (hg:∀cl C fp pins s H,PG (cxC X N' scope cl C fp pins s H) tg g) (hq:Cks X N' scope cs tc) (he:∀cl C fp pins s H,PE (cxC X N' scope cl C fp pins s H) elt te)
  (I2:Inv X pins σ H2 s2) (T:Turn X.prog X.w X.K tg J fp it tn) (st2:tn 0 s2.heap) (f2:∀b∈fp,FpOk X pins H2 b)
  (q:∀D,H2 D=none->∃W:Nat->Nat->L2.St->Hp->Prop,(∃m,W 0 m (Rz js σ) (upd H2 D (.lst [])))/\
   ∀i m σc Hc,W i m σc Hc->(J.stop i Hc/\QD D Hc)\/(J.go i Hc/\∀x H',J.yld i Hc x H'->g x σc H' λσ2 H2=>tc σ2 H2 (Ya5 te W D m i σ2)))
  (back:∀(D C:Uj) (Hc:Hp) (s4:Ui),(∃m,s4.heap.Ns C m)->Inv X pins σ Hc s4->Hc C=none->C≠X.env.locals->X.s₀⁻¹<=C->(∀x c,X.env.cells.lookup x=some c->c≠C)->(∀p∈X.pn++pins,p.1≠C)->QD D Hc->R (.ref D) C (.ok .next) s4):
  ⇑X (newList []) (λacc s3=>⇑X (newFunctionEnv scope X.env.globals cl [] X.env.qual none .none (some X.env)) (λcenv s4=>
   codeAny (model X.prog X.w) X.A (.compStart (.ListComp elt [(tg,iter,cs,0)] scope pos) 0 (.ref it) acc {cenv with scope:=relabel scope X.env}) (R acc cenv.locals) s4) E s3) E s2:=by
 show Kz (Za7 ?_);dsimp only;have I3:Inv X pins σ (upd H2 s2⁻¹ (.lst [])) {s2 with heap:=s2.heap.push {cls:= .type "list",data:= .seq ([]:LW).toArray}}:=I2.lnew (its:=[]) (t':=s2.toks) .nil (nk _);let(W,(m0,w0),turn):=q s2⁻¹ I2.fresh;have hob:=T.obj 0 _ st2;have f3:∀b∈fp,FpOk X pins (upd H2 s2⁻¹ (.lst [])) b:=λb hb=>by let(o,e,_):=hob b hb;show(by rw[Z6 (nj (Dd e))];show(f2 b hb).1,(f2 b hb).2)
 generalize hS3:(s2.heap.push {cls:= .type "list",data:= .seq ([]:LW).toArray}:Um)=h3 at *;have k23:∀b o,s2.heap.get? b=some o->h3.get? b=some o:=λb o e=>by rw[<-hS3];show Ah _ e
 have hlt:∀b∈fp,b<h3.objs.size:=λb hb=>by let(o,e,_):=hob b hb;show Dd (k23 b o e)
 have bc:=Z78 S.nd I3 {cls:= .type "dict",data:= .dict #[]} c1 c2;have hns:(pushCells (h3.push {cls:= .type "dict",data:= .dict #[]}) scope.names).Ns h3.objs.size (λ_=>none):=(Heap.Ns.new h3 (.type "dict")).keeps (pushCells_keeps _ _);have k31:∀b o,h3.get? b=some o->(pushCells (h3.push {cls:= .type "dict",data:= .dict #[]}) scope.names).get? b=some o:=λb o e=>pushCells_keeps _ _ b o (Ah _ e);dsimp only at bc;generalize cellsFrom (h3.objs.size+1) scope.names cl=cl' at bc |-;generalize pushCells (h3.push {cls:= .type "dict",data:= .dict #[]}) scope.names=h1 at bc hns k31 |-;have I4:=Z92 (tk:=s2.toks) S I3 bc f3 hlt hns k31;have st4:tn 0 h1:=T.keep 0 _ h1 st2 λb hb o e=>k31 b o (k23 b o e);have nofs:∀b∈fp,b∉'c'.fs:=I4.ok.exfs;have stat:∀{H':Hp},(∀b∈fp,H' b=none)->∀b∈fp,FpOk 'c' [] H' b:=fun{H'} hn b hb=>
  (hn b hb,nj (hlt b hb),nofs b hb,.inl hb,λx c e=>(bc.each x c e).elim (λz=>(f3 b hb).2.2.2.2.1 x c z) (λz q=>absurd z.1 (Nat.lt_asymm (by rw[q];show hlt b hb))),λp hp=>(f3 b hb).2.2.2.2.2 p (by simpa[cxC] using hp))
 have loop:codeAny (model X.prog X.w) X.A (.compLoop (.ListComp elt [(tg,iter,cs,0)] scope pos) 0 (.ref it) (.ref s2⁻¹) (compEnvC scope cl' h3.objs.size X.env))
   (R (.ref s2⁻¹) h3.objs.size) {s2 with heap:=h1,toks:=s2.toks}:=by
  have i0:∃i σc Hc,Inv 'c' [] σc Hc {s2 with heap:=h1,toks:=s2.toks}/\tn i h1/\(∀b∈fp,Hc b=none)/\W i m0 σc Hc:=(0,_,_,I4,st4,λb hb=>(f3 b hb).1,w0);have nxt:∀n z,(∃i σc Hc,Inv 'c' [] σc Hc z/\tn i z.heap/\(∀b∈fp,Hc b=none)/\W i n σc Hc)->⇑X (pyNext (.ref it)) (λr d=>match r with
    | none=>R (.ref s2⁻¹) h3.objs.size (.ok .next) d
    | some v=>⇑X (letOwnedTupleGo tg (.ref it) v) (λ_ k=>⇑X (assign tg (compEnvC scope cl' h3.objs.size X.env) v) (λ_ j=>∃i k σ6 H6,tn (i+1) k/\Inv 'c' ([]++Qw fp k) σ6 H6 j/\tc σ6 H6 (Ya5 te W s2⁻¹ n i σ6)) noE k) noE d) noE z:=by
   rintro n z ⟨i,σc,Hc,Iz,stz,frz,wz⟩;rcases turn i n σc Hc wz with⟨stop,qd⟩|⟨go,step⟩
   .refine thn (T.done 'c' rfl rfl rfl hc i [] z σc Hc noE Iz (stat frz) stz stop) λr s4 zz=>?_;let(hr,I5):=zz;subst hr;have J5:Inv X pins σ Hc s4:=I3.call' (s':=s4) I5.os I5.base I5.hok I5.bare λb hb=>((f3 b hb).2.2.2.1,(f3 b hb).2.1,(f3 b hb).2.2.2.2.1,(f3 b hb).2.2.2.2.2);let(m,hm,_):=I5.loc;show back _ _ Hc s4 (m,hm) J5 I5.free (nq I3.lt) (ni I3.ok.above (mf I3.lt)) (λx c e z=>?_) (λp hp z=>?_) qd
    .let(v,q):=I3.cell x c e;show absurd q.lt (by rw[z];show nv _)
    .show absurd (Dd (I3.pin p hp).1) (by rw[z];show nv _)
   .refine thn (T.item 'c' rfl rfl rfl hc i [] z σc Hc noE Iz (stat frz) stz go) λr s4 zz=>?_;let(u,hr,h4):=zz;subst hr;show thn h4 λ_ s5 zz=>?_;let(x,H5,I5,r5,y5,st5,fr5):=zz;show thn (hg _ _ _ _ _ _ _ s5 σc H5 x u _ (I5.pinned (stat fr5) (T.obj _ _ st5)) r5 (step x H5 y5)) λ_ s6 zz=>by let(σ6,H6,I6,q6):=zz;show(i,_,σ6,H6,st5,I6,q6)
  have on:∀{i n m':Nat} {k:Um} {σ6 H6 j},tn (i+1) k->Inv 'c' ([]++Qw fp k) σ6 H6 j->m'<n->W (i+1) m' σ6 H6->∃m,m<n/\∃i σc Hc,Inv 'c' [] σc Hc j/\tn i j.heap/\(∀b∈fp,Hc b=none)/\W i m σc Hc:=by intro i n m' k σ6 H6 j st5 I6 hm w7;show(m',hm,i+1,σ6,_,I6.unpinned,T.keep _ _ _ st5 λb hb o e=>(I6.pin #v[b,o] (Dm _ (Dm _ (X8 hb e)))).1,λb hb=>?_,w7);let(o,e,d):=T.obj _ _ st5 b hb;show(I6.pin #v[b,o] (Dm _ (Dm _ (X8 hb e)))).2.1
  have tru:∀{i n:Nat} {k:Um} {σ6 H6 j},tn (i+1) k->Inv 'c' ([]++Qw fp k) σ6 H6 j->Ya5 te W s2⁻¹ n i σ6 true H6->⇑X (eval elt (compEnvC scope cl' h3.objs.size X.env)) (λx e=>⇑X (call (.builtin "list.append") [.ref s2⁻¹,x]) (λ_ d=>∃m,m<n/\∃i σc Hc,Inv 'c' [] σc Hc d/\tn i d.heap/\(∀b∈fp,Hc b=none)/\W i m σc Hc) noE e) noE j:=by intro i n k σ6 H6 j st5 I6 q6;show thn (he _ _ _ _ _ _ _ j σ6 H6 _ I6 q6) λv s7 zz=>?_;let(y,H7,I7,r7,acc,hD,hlen,m',hm,w7):=zz;show thn (Gb _ s7 σ6 H7 (.ref s2⁻¹) [y] (.ref s2⁻¹) [v] (λ_ H8=>H8=upd H7 s2⁻¹ (.lst (acc++[y]))) I7 rfl (.cons r7 .nil) (_,acc,y,rfl,rfl,hD,hlen,rfl)) λ_ s8 zz=>?_;let(_,H8,I8,_,e8):=zz;subst e8;show on st5 I8 hm w7
  rcases hq with⟨rfl,rfl⟩|⟨c,rfl,hq⟩
  .show Z77 _ (λn s h=>Z27 (nxt n s h) λj zz=>by let(i,k,σ6,H6,a,b,d):=zz;show tru a b d) m0 i0
  .show Za1 _ (λn s h=>Z27 (nxt n s h) λj (i,k,σ6,H6,a,b,d)=>thn (hq _ _ _ _ _ _ _ j σ6 H6 _ b d) λok s6 (H7,I7,q7)=>by
    cases ok with
    | false=>let(m',hm,w7):=q7;show on a I7 hm w7
    | true=>show tru a I7 q7) m0 i0
 show codeAny_compStart_list loop (T.self _ 0 _ _ _ st4 loop)
def J6(O:X.calm=true)(F:Xg X.env.scope X.N N' js scope=true)(hi:PI X tg iter wi)(L:∀a C fp pins s H,PG (cxC X N' scope a C fp pins s H) tg g)(E:Cks X N' scope cs tc)(M:∀a C fp pins s H,PE (cxC X N' scope a C fp pins s H) elt te)
  (B:∀x,foldedSetIterable iter X.env x=pure x:=by intro _;rfl):PE X (.ListComp elt [(tg,iter,cs,0)] scope pos) (Zh5 js wi g tc te):=by
 intro pins s l H Q I h;have S:=CompScope.of F;let(a,i,c1,c2):=Ob (scope:=scope) (env:=X.env) λn G=>I.ok.has n (S.free n G);rw[eval_ListComp];show wpAny_comprehension_free (use:=none) rfl B i S.kind S.loc (thn (hi pins s l H _ I h) λv s1 V=>thn V λz s2 U=>?_);let(it,fp,tn,J,H2,e,I2,T,d,Y,t):=U;subst e;show Nk (QD:=λD k=>Q (.ref D) k) (R:=λj C=>compPost (model X.prog X.w) X.A X.xe none (EP X pins l Q) j C) O S c1 c2 L E M I2 T d Y t ?_;rintro D C k q ⟨m,K⟩ J4 W y p Z u r;show(m,K,λh' f=>(.ref D,k,?_,rfl,r));show J4.turned (t':=q.toks) (λb o P e=>(f.2 b P).trans e) W y (.inr p) Z u
def Ym4(i:Nat)(js:List (Option Nat))(wi:TI)(g:TG)(tc:TT)(te:TE):TS:=λD a H=>Zh5 js wi g tc te a H λv b=>D.nx (a.set i (some v)) b
def Ce{i:Nat}{x:Str}{f d:Pos}(hc:X.calm=true)(ho:Xg X.env.scope X.N N' js scope=true)(hN:X.N.Nodup)(hx:X.N[i]?=some x)(K:X.env.scope.names.lookup x=some .local)(hi:PI X tg iter wi)
  (hg:∀j C fp pins s H,PG (cxC X N' scope j C fp pins s H) tg g) (u:Cks X N' scope cs tc) (he:∀j C fp pins s H,PE (cxC X N' scope j C fp pins s H) elt te)
  (r:swapsWith (.ListComp elt [(tg,iter,cs,0)] scope pos) (some (.Name x f)) d.line X.env=pure true)
  (hs:∀x,foldedSetIterable iter X.env x=pure x:=by intro _;rfl):PS X (.Assign [.Name x f] (.ListComp elt [(tg,iter,cs,0)] scope pos) d) (Ym4 i js wi g tc te):=by
 intro pins s p H D I h;have S:=CompScope.of ho;let(j,y,c1,c2):=Ob (scope:=scope) (env:=X.env) λn hn=>I.ok.has n (S.free n hn);rw[exec_Assign_Name_used _ _ _ _ r];show Ac (Mn (Ac ?_));change wpAny _ _ (do let _ <-comprehension (.ListComp elt [(tg,iter,cs,0)] scope pos) scope X.env _ (newList []) false (eval iter X.env) (some (assign (.Name x f) X.env))) _ _ s;show Ac (Hl (wpAny_comprehension_free (use:=some (assign (.Name x f) X.env)) (Q:=λ_ l=>SP X pins D .next l) rfl hs y S.kind S.loc (thn (hi pins s p H _ I h) λv s1 h1=>thn h1 λZ s2 h2=>?_)) (λ_ l u=>Ao (Ao u)) λ_ _ e=>e);let(it,fp,tn,J,H2,e,I2,T,q,f2,W):=h2;subst e;show Nk (QD:=λk F=>D.nx (p.set i (↑k)) F) (R:=λE C=>compPost (model X.prog X.w) X.A X.xe (some (assign (.Name x f) X.env)) (λ_ l=>SP X pins D .next l) E C) hc S c1 c2 hg u he I2 T q f2 W ?_;rintro k C F U ⟨m,hm⟩ J4 fC G O L Y V;change wpAny _ _ (assign (.Name x f) X.env (.ref k)) _ _ U;show wpAny_assign_Name (G9 J4 hN hx (.inl K) (v:= .ref k) rfl (λP J5 zz=>?_) (.inr K));let(a,M,ha):=zz;have B:C≠a:=by
  rcases ha with z|z
  .rw[z];show G
  .exact(L x a z).symm
 show(m,hm.sameBut M B,λh' t=>(p.set i (↑k),F,?_,V));show J5.turned (t':=P.toks) (λb o hb e=>(t.2 b hb).trans e) fC G (.inr O) L Y
end
end L3
namespace L3
open PySem
def ExAt(h:Um)(e:Uj)(b:Uh)(f:Option Uj)(d:Uh):Prop:=∃a c,h.get? e=some a/\(a.cls=b/\a.dict=f)/\a.data= .fields c/\c[1]?=some d
def TbAt(h:Um)(T:Uj)(c:Uh):Prop:=∃b a,h.get? T=some b/\b.data= .fields a/\a[3]?=some c
def ExAt.at{a:Uh}{c:Option Uj}{b:Uh}(x:ExAt h e a c b)(k:∀o,h.get? e=some o->h'.get? e=some o):ExAt h' e a c b:=
 let (f,d,g,r):=x;(f,d,k _ g,r)
def Po(o:Obj)(f:Array Uh->Array Uh):(o.mapFields f).dict=o.dict:=by let(c,d,a,b):=o;cases a<;>rfl
structure Flown(fs xs:List Uj)(h h':Um):Prop where
 keep:∀b o,h.get? b=some o->b∉fs->b∉xs->h'.get? b=some o
 slot:∀b o,h.get? b=some o->b∈fs->b∉xs->∃sl,h'.get? b=some {o with slots:=sl}
 there:∀b o,h.get? b=some o->∃o',h'.get? b=some o'
def Flown.trans{i xs ys:List Uj}(a:Flown i xs h m)(b:Flown i ys m l)(k:∀z∈ys,z∈xs\/h.get? z=none):Flown i xs h l where
 keep:=λc o e f d=>b.keep c o (a.keep c o e f d) f λz=>(k c z).elim d λq=>by rw[q] at e;cases e
 slot:=λc o e f d=>by
  let(r,j):=a.slot c o e f d;let(g,p):=b.slot c _ j f λz=>(k c z).elim d λq=>by rw[q] at e;cases e
  show(g,p)
 there:=λc o e=>by let(n,j):=a.there c o e;show b.there c n j
section
variable{M:Model}{A:Around}{E:VSP}{s:Ui}{base:Um}{env:Env}{outer:List Env}{L e:Uj}{cls:Uh}{dd:Option Uj}{tb:Uh}
abbrev frsE(l:List Env):List Uj:=l.filterMap (·.frame)
def Yd5(g:s.heap.FunFrames base (env::outer))(d:ExAt s.heap e cls dd tb):e∉frsE (env::outer):=λf=>by let(j,c,h,_,i,_):=d;let(_,o,a,b):=g.mem f;rw[h] at a;injection a with a;subst a;show b c i
def Fq(w:A.frames=some (env::outer))(C:s.heap.FunFrames base (env::outer))(G:env.frame=some L)(l:ExAt s.heap e cls dd tb)
  (h:∀h' T,s⁻¹<=T->T≠e->ExAt h' e cls dd (.ref T)->TbAt h' T (rawInt L)->Flown (frsE (env::outer)) [e] s.heap h'->Q () {s with heap:=h'}):
  wpAny M A (do let a <-frameOf env;let u <-entryPlaceOf L g;let b <-EntryCells.newEntry j a .none (rawInt L) .none u;setField (.ref e) 1 b) Q E s:=by
 have r:=Yd5 C l;let(F,D,H,(I,x),y,i):=l;have m:1<D.size:=(Array.getElem?_eq_some_iff.mp i).1;show Ac (wpAny_frameOf_fun w C G λi d=>?_);show Ac (wpAny_entryPlaceOf λu n=>?_);unfold EntryCells.newEntry newFields;show Ac (Kz ?_ (n.sizeOk5 _ _ _ _ _));generalize p:({cls:= .type "traceback",dict:=none,data:= .fields ([j,.ref L,.none,rawInt L,.none]++(if u.isEmpty then Hn 6 Value.none else u)).toArray}:Obj)=ob;have f:i.get? e=some F:=(d.2.1 e r).trans H;have v:ob.isFreed=false:=by rw[<-p];rfl
 show wpAny_setField (Ah ob f) y m (h _ i.objs.size ?_ (nq (Dd f)) ?_ ?_ ?_)
 .show Nat.le_of_eq d.1.symm
 .have t:=Mu y (·.setIfInBounds 1 (Value.ref i.objs.size));show(_,_,Iu _ (Ah ob f) (My t),((Obj.cls_mapFields _ _).trans I,(Po _ _).trans x),t,by simp[m])
 .refine(ob,_,(Ie _ _ (nj (Dd f))).trans (Dp i v),by rw[<-p],?_)
  first | (simp;done) | (rcases n with rfl|⟨_,_,_,_,_,_,_,rfl⟩<;>simp)
 .have c:∀b o,b≠e->i.get? b=some o->((i.push ob).update e (Mo (·.setIfInBounds 1 (Value.ref i.objs.size)))).get? b=some o:=λb o k q=>by rw[Ie _ _ (Il k)];show Ah _ q
  show(λb o q k l=>c b o ↥l ((d.2.1 b k).trans q),λb o q k l=>?_,λb o q=>?_)
  .let(B,z):=d.2.2 b o q;show(B,c b _ ↥l z)
  .let(B,z):=d.2.2 b o q;by_cases k:b=e
   .subst k;show(_,Iu _ (Ah ob f) (My (Mu y _)))
   .exact(_,c b _ k z)
def Z96(a:A.frames=some (env::outer))(d:s.heap.FunFrames base (env::outer))(c:env.frame=some L)(b:ExAt s.heap e cls dd .none)
  (h:∀h' T,s⁻¹<=T->T≠e->ExAt h' e cls dd (.ref T)->TbAt h' T (rawInt L)->Flown (frsE (env::outer)) [e] s.heap h'->Q () {s with heap:=h'}):
  wpAny M A (noteFrame (.ref e) env) Q E s:=by
 let(k,j,f,l,g,i):=id b;ext noteFrame;erw[c];show Ac (Ub f g i ?_);rw[nc 'd'];show Fq a d c b h
def El(m:A.frames=some (env::outer))(G:s.heap.FunFrames base (env::outer))(t:env.frame=some L)(f:ExAt s.heap e cls dd (.ref T0))(F:TbAt s.heap T0 .none)(l:T0≠e)
  (h:∀h' T,s⁻¹<=T->T≠e->ExAt h' e cls dd (.ref T)->TbAt h' T (rawInt L)->Flown (frsE (env::outer)) [e,T0] s.heap h'->Q () {s with heap:=h'}):
  wpAny M A (noteFrame (.ref e) env) Q E s:=by
 let(K,p,H,N,I,J):=id f;let(D,C,k,d,u):=id F;ext noteFrame;erw[t];show Ac (Ub H I J ?_);rw[ng (show(Value.ref T0 !=Value.none)=true from by simp)];show Ac (Ub k d u ?_);rw[nc (show ¬((Value.none==rawInt L)=true) from by simp[rawInt])];show Ac (wpAny_setField k d (Array.getElem?_eq_some_iff.mp u).1 ?_);have a:∀b,b≠T0->(s.heap.update T0 (Mo (·.setIfInBounds 3 Value.none))).get? b=s.heap.get? b:=λb c=>Ie _ _ (Il c);have g:(s.heap.update T0 (Mo (·.setIfInBounds 3 Value.none))).get? T0=some (D.mapFields (·.setIfInBounds 3 Value.none)):=Iu _ k (My (Mu d _));have i:∀b o,s.heap.get? b=some o->(∀p,o.data≠ .fields p)->b≠T0:=λb o c j q=>by rw[q,k] at c;injection c with c;subst c;show j C d
 have n:Flown (frsE (env::outer)) [e,T0] s.heap (s.heap.update T0 (Mo (·.setIfInBounds 3 Value.none))):=by
  show(λb o q _ f=>(a b (by simp at f;show f.2)).trans q,λb o q _ f=>(o.slots,(a b (by simp at f;show f.2)).trans q),λb o q=>?_);by_cases c:b=T0
  .subst c;show(_,g)
  .exact(o,(a b c).trans q)
 show Fq (s:={s with heap:=s.heap.update T0 (Mo (·.setIfInBounds 3 Value.none))}) m (G.of_keeps λb o c j=>(o,(a b (i b o c j)).trans c,rfl)) t
  (f.at λo q=>(a e (Il l)).trans q) λh' T B y x w v=>h h' T ?_ y x w (n.trans v λz r=> .inl (by simp at r;simp[r]))
 show ni (Nat.le_of_eq (Heap.size_update ..).symm) B
def Sb(l:ExAt s.heap e cls dd (.ref T0))(t:TbAt s.heap T0 y)(k:T0≠e)
  (h:∀h',ExAt h' e cls dd (.ref T0)->TbAt h' T0 (j.elim Value.none λf=>rawInt f)->(∀b o,b≠T0->s.heap.get? b=some o->h'.get? b=some o)->(∀b o,s.heap.get? b=some o->∃r,h'.get? b=some r)->Q () {s with heap:=h'}):
  wpAny M A (setFlight (.ref e) j) Q E s:=by
 let(B,z,u,C,v,x):=id l;let(p,n,m,g,w):=id t;have d:3<n.size:=(Array.getElem?_eq_some_iff.mp w).1;have a:∀b,b≠T0->(s.heap.update T0 (Mo (·.setIfInBounds 3 (j.elim Value.none λf=>rawInt f)))).get? b=s.heap.get? b:=λb i=>Ie _ _ (Il i);have c:(s.heap.update T0 (Mo (·.setIfInBounds 3 (j.elim Value.none λf=>rawInt f)))).get? T0=some (p.mapFields (·.setIfInBounds 3 (j.elim Value.none λf=>rawInt f))):=Iu _ m (My (Mu g _));ext setFlight;show Ac (Ub u v x ?_);rw[ng (show(Value.ref T0 !=Value.none)=true from by simp)];show wpAny_setField m g d (h _ (l.at λo q=>(a e (Il k)).trans q) (_,_,c,Mu g _,by simp[d]) (λb o i q=>(a b i).trans q) λb o q=>?_);by_cases i:b=T0
 .subst i;show(_,c)
 .exact(o,(a b i).trans q)
end
end L3
namespace L3
open PySem PySem.W
abbrev Fj(rest:LW):Obj:={cls:= .type "tuple",data:= .seq rest.toArray}
abbrev Pm(C t:Uj):Obj:={cls:= .ref C,data:= .fields #[.ref t,.none,.none,.none,.bool false,.none]}
section
variable{prog:Uk}{w:Ul}{A:Around}{h:Um}{g:Array GenState}{d:Drawn}{t:Nat}{os:OsState}
variable{nm q:Str}{C N f:Uj}{bs bm:LW}{hdct:Bool}{sn:LS}{sub:LW}{ab:Bool}{col:Option Bool}{dd:Option Uj}{k0 k1 k2 k3 k5:Option Uh}{Bn newId inN:String}{bmN:LW}
structure ExcCls(h:Um)(C:Uj)(nm q:Str)(N:Uj)(bs bm:LW)(hdct:Bool)(sn:LS)(sub:LW)(ab:Bool)(col:Option Bool)(dd:Option Uj)(k0 k1 k2 k3 k5:Option Uh)(Bn newId:String):Prop where
 obj:h.get? C=some (excClassObj nm q C N bs bm hdct sn sub ab col dd k0 k1 k2 k3 k5 newId)
 hB:(Value.ref C::bm).contains (.type Bn)=true
 hA:(Value.ref C::bm).contains (.type "AttributeError")=false
 hN:(Value.ref C::bm).contains (.type "NameError")=false
 hE:(Value.ref C::bm).contains (.type "BaseException")=true
def Zh7{E:VSP}(b:ExcBaseFacts Bn newId inN bmN)(x:ExcCls h C nm q N bs bm hdct sn sub ab col dd k0 k1 k2 k3 k5 Bn newId)(e:Q () (h,g,d,t,os)):
  wpAny M A (checkBuiltinCall newId (.ref C::rest,[])) Q E (h,g,d,t,os):=by
 have a:=x.obj;have i:=x.hB;have c:=b.noStar;erw[checkBuiltinCall,b.newKind,b.newSplit,b.newRow]
 repeat (first
  | show Lk a ?_
  |(show Mi a ?_;rw[i])
  | show wpAny_staticBase_exc a ?_
  | show wpAny_madeBy_exc a ?_
  | erw[bne_self_eq_false,Bool.false_eq_true,if_false]
  | wp_step)
 show e
def Y78(a:ExcBaseFacts Bn newId inN bmN)(x:ExcCls h C nm q N bs bm hdct sn sub ab col dd k0 k1 k2 k3 k5 Bn newId)
  (m:R (.ok (.ret (.ref (h.objs.size+1)))) ((h.push (Fj rest)).push (Pm C h.objs.size),g,d,t,os)) (b:rest.length<=sizeLine):
  codeAny (model prog w) A (.builtin newId (.ref C::rest,[])) R (h,g,d,t,os):=by
 have c:=a.ends;let(k,i,j,e,_):=x;show codeAny_builtinAt a.entry ?_;unfold Builtin.«BaseException.__new__»;show wpAt_bind ?_;change wpAt _ _ _ (stack >>=_) _ _ _;show wpAt_bind (wpAt_stack λp l=>wpAt_of_wpAny ?_)
 wp_walk
 show wpAt_of_wpAny ?_;rw[a.owner]
 repeat (first
  | with_reducible show wpAny_madeHere_exc a.canon k ?_
  | with_reducible show Lk k ?_
  |(with_reducible show Mi k ?_;first | rw[i] | rw[j] | rw[e])
  | wp_step)
 change R _ _;rw[Ln];show m
def Ye9(e:Uj)(R:Result->Ui->Prop)(r:Result)(s':Ui):Prop:=match r with
 | .ok (.ret v)=>v= .none/\R (.ok (.ret (.ref e))) s'
 | .ok _=>False
 | .error z=>R (.error z) s'
def Zu0(n:ExcBaseFacts Bn newId inN bmN)(x:ExcCls h C nm q N bs bm hdct sn sub ab col dd k0 k1 k2 k3 k5 Bn newId)
  (hi:Looks (model prog w) h (typeLookup (.ref C) "__init__") (↑f)) (s:∀a,Looks (model prog w) h (bindSpecial (.ref f) a) #v[.ref f,[a]])
  (p:codeAny (model prog w) (A.under (.builtin "type.__call__" (.ref C::rest,[]))) (.call (.ref f) (.ref (h.objs.size+1)::rest,[])) (Ye9 (h.objs.size+1) R) ((h.push (Fj rest)).push (Pm C h.objs.size),g,d,t,os))
  (i:rest.length<=sizeLine):codeAny (model prog w) A (.call (.ref C) (rest,[])) R (h,g,d,t,os):=by
 have j:=x.obj;have F:=tc_lookup;have E:=tc_bind (.ref C);have D:((h,g,d,t,os):Ui).TypeIs (.ref C) "type":=(_,j,rfl);show codeAny_of_tree ?_;change wpAny _ _ (callAny (.ref C) _) _ _ _
 repeat (any_goals (first | assumption | with_reducible show Lk j ?_ | wp_step))
 show(rfl,?_);show codeAny_call_builtin_at (Code.quiet_builtin _ 'k') entry_typeCall (wpAny_check_type_call_sub j ?_)
 repeat (first | with_reducible show Lk j ?_ | with_reducible show wpAny_madeBy_exc j ?_ | wp_step)
 show codeAny_call_builtin_code (Code.quiet_builtin _ n.quiet) (Zh7 n x ?_);show Y78 n x ?_ i;change wpAny _ _ _ _ _ _;have k:∀b o,h.get? b=some o->((h.push (Fj rest)).push (Pm C h.objs.size)).get? b=some o:=λb o e=>Ah _ (Ah _ e);have m:=k _ _ j;have c:((h.push (Fj rest)).push (Pm C h.objs.size)).get? (h.objs.size+1)=some (Pm C h.objs.size):=by heap_get
 have l:(Value.ref C::bm).contains (.ref C)=true:=by simp
 have B:=hi.keeps k;have G:=(s (.ref (h.objs.size+1))).keeps k;have u:Looks (model prog w) ((h.push (Fj rest)).push (Pm C h.objs.size)) (typeOf (.ref (h.objs.size+1))) (.ref C):=(Looks.ld c).andThen .now;ext isInstance
 repeat (first | with_reducible show Lk c ?_ | (with_reducible show Mi m ?_;rw[l]) | wp_step)
 change wpAny _ (A.under (.builtin "type.__call__" (.ref C::rest,[]))) (isSubtype (.ref C) (.ref C)) _ _ ((h.push (Fj rest)).push (Pm C h.objs.size),g,d,t,os);show Mi m ?_;rw[l];unfold callSpecial? specialOf
 repeat (first | erw[Bool.not_true,Bool.false_eq_true,if_false] | with_reducible show Ly ?_ | lk)
 show Kw p λr y z=>?_;rcases r with e|(v|_|_|_)<;>first | show z | show z.elim | skip;let(rfl,z):=z;show Ao (Ao z)
end
end L3
namespace L3
open PySem PySem.W PySem.Calls PyProof.Rows Builtin Builtin.ObjectAttr
def Z75(a:Uh):refuseLoop a "__setattr__" [.type "ValueError",.type "Exception",.type "BaseException",.type "object"]=pure ():=by
 kernel_rfl
structure ExcSet(K:Frag)(C:Uj)(name:Str):Prop where
 cls:∃cd own,clsIn K C=some cd/\cd.hasDict=true/\cd.mro=own++[.type "ValueError",.type "Exception",.type "BaseException",.type "object"]/\∀v∈own,∃a,v=Value.ref a
 no:findIn K (.ref C) name=some none
 set:findIn K (.ref C) "__setattr__"=some (some (.builtin "object.__setattr__"))
def Pz(b:Uh):∀own:LW,(∀v∈own,∃a,v=Value.ref a)->refuseLoop b "__setattr__" (own++[.type "ValueError",.type "Exception",.type "BaseException",.type "object"])=pure ()
 | [],_=>Z75 b
 | v::r,h=>by let(a,rfl):=h v Aw;rw[Kh,refuseLoop_ref];show Pz b r λu c=>h u (An _ c)
section
variable{prog:Uk}{w:Ul}{A:Around}{K:Frag}{C e:Uj}{s:Ui}{name:Str}{R:Result->Ui->Prop}
def Zo4{v:Uh}(X:K.In s.heap)(S:ExcSet K C name)(k:s.heap.get? e=some j)(G:j.cls= .ref C)(p:j.dict=none)(L:j.data= .fields vs)
  (h:∀h' u,h'.get? e=some {j with dict:=some s⁻¹}->h'.Ns1 s⁻¹ (λx=>if x=name then some v else none)->(∀b o,b≠e->s.heap.get? b=some o->h'.get? b=some o)->R (.ok (.ret .none)) {s with heap:=h',toks:=u}):
  codeAny (model prog w) A (.call (.builtin "object.__setattr__") ([.ref e,.str name tk,v],[])) R s:=by
 let((I,l,i,E,g,m),z,_):=S;have r:=PySem.F.store_object;have t:Looks (model prog w) s.heap (typeOf (.ref e)) (.ref C):=by rw[<-G];show(Looks.ld k).andThen .now
 have N:I.mro.isEmpty=false:=by rw[g];cases l<;>rfl
 have O:I.mro.contains (.type "object")=true:=by rw[g];simp
 have y:Looks (model prog w) s.heap (isInstance (.ref e) (.type "object")) true:=t.andThen (looks_mroIn X (by ext mroIn;rw[i,Dz,nc (by rw[N];decide),O]));show codeAny_call_builtin r.slot.plain r.entry (@check_slot (model prog w) _ _ s "object.__setattr__" "object" "__setattr__" (.ref e) [.str name tk,v] [] _ r.kind r.split y (r.args (.ref e) (.str name tk) v) ?_);have P:Looks (model prog w) s.heap (mroOf (.ref C)) I.mro:=(looks_clsIn X i).andThen .now;rw[osa_eq,refuse_eq];show Ac (Ac (t.here (Ac (P.here ?_))));rw[g,Pz _ l m];show Ao (Ac (t.here (Ac ((looks_findIn X z).here (Ac (Ao ?_))))));change wpAny _ _ (storeInOwnDict (.ref e) (.ref C) (.str name tk) name v false) _ _ _;let(c,T,V,U):=j;dsimp only at G p L;subst G p L;show Ac (Ao (Ac (Ac (wpAny_loadPart k (Ac ((looks_clsIn X i).here ?_))))));rw[E];change wpAny _ _ (alloc {cls:=Value.type "dict",data:=Data.dict #[]} >>=λd=>update e (λo=>{o with dict:=some d}) >>=λ_=>dictMade (.ref C) e d) _ _ s;show Ac (wpAny_alloc (Ac (wpAny_update (Ah _ k) ?_)));show Ao (a:=some s⁻¹) ?_;show Ac (Ao (Ac ?_));have D:((s.heap.push {cls:=Value.type "dict",data:=Data.dict #[]}).update e λo=>{o with dict:=some s⁻¹}).get? s⁻¹=some {cls:=Value.type "dict",data:=Data.dict #[]}:=
  (Ie _ _ (nj (Dd k))).trans (Dp _ rfl)
 have M:∀f:Obj->Obj,(f {cls:=Value.type "dict",data:=Data.dict #[]}).isFreed=false->(((s.heap.push {cls:=Value.type "dict",data:=Data.dict #[]}).update e λo=>{o with dict:=some s⁻¹}).update s⁻¹ f).get? s⁻¹=
   some (f {cls:=Value.type "dict",data:=Data.dict #[]}):=λf Q=>Iu f D Q
 ext nsSet;show Ac (Ac (wpAny_askSetting (Ao (Ac (wpAny_mkText (Ac (wpAny_loadPart D ?_)))))));dsimp only;rw[show aRefKeyMayBeTheName name #[]=false from rfl,nc Bf9];show wpAny_updatePart D ?_;show Ac (wpAny_lookBehind (M _ rfl) ?_ ?_)
 .show pastItsLine_dict (by change 1<=_;decide)
 show Ao ?_;show h _ _ ?_ ?_ ?_
 .rw[Ie _ _ (nq (Dd k))];show Iu _ (Ah _ k) rfl
 .refine(_,_,_,M _ rfl,rfl,?_,?_,?_)
  .change StrKeys #[((_,.str name _,v):DictEntry)];intro x J;simp at J;subst J;show(name,_,rfl)
  .change UniqKeys #[((_,.str name _,v):DictEntry)];simp[UniqKeys]
  .intro n;change nsFind #[((_,.str name _,v):DictEntry)] n=_;by_cases B:n=name
   .subst B;simp[nsFind,findBy,Value.isStr]
   .have H:(name==n)=false:=by simpa using Il B
    simp[nsFind,findBy,Value.isStr,H,B]
 .intro b o H q;rw[Ie _ _ (nq (Dd q)),Ie _ _ (Il H)];show Ah _ q
def Ep{v:Uh}{E:VSP}(X:K.In s.heap)(S:ExcSet K C name)(i:s.heap.get? e=some f)(k:f.cls= .ref C)(g:f.dict=none)(j:f.data= .fields vs)
  (h:∀h' d,h'.get? e=some {f with dict:=some s⁻¹}->h'.Ns1 s⁻¹ (λx=>if x=name then some v else none)->(∀b o,b≠e->s.heap.get? b=some o->h'.get? b=some o)->Q () {s with heap:=h',toks:=d}):
  wpAny (model prog w) A (setAttr (.ref e) name v) Q E s:=by
 have J:InstAt s.heap e f C none:=(i,k,by ext notCls;rw[j],by rw[g];trivial);show set_plain X J S.set (Zo4 (s:={s with toks:=s.toks+1}) X S i k g j λh' d a b c=>h h' d a b c)
structure ExcGet(K:Frag)(C:Uj)(name:Str):Prop where
 cls:∃cd,clsIn K C=some cd/\cd.hasDict=true
 no:findIn K (.ref C) name=some none
 ga:findIn K (.ref C) "__getattribute__"=some (some (.builtin "BaseException.__getattribute__"))
 gh:findIn K (.ref C) "__getattr__"=some none
 base:mroIn K C (.type "BaseException")=some true
def Yd3(a:Uh):bindSpecial (.builtin "BaseException.__getattribute__") a=pure #v[.builtin "BaseException.__getattribute__",[a]]:=by kernel_rfl
def Y60:builtinKind "BaseException.__getattribute__"=some .slot:='k'
def Y02:splitId "BaseException.__getattribute__"=some #v["BaseException","__getattribute__"]:='k'
def Zt1:plainId "BaseException.__getattribute__"=true:='k'
def Y57(a b:Uh):argsOk "BaseException.__getattribute__" ([a,b],[]):=by ext argsOk;kernel_rfl
end
end L3
namespace L3
open PySem PySem.Spec PyProof.Rows L2
def XO(e:Uj)(b:Uh)(f:Option Uj):HO:= .ext λh=>∃a c d,h.get? e=some a/\(a.cls=b/\a.dict=f)/\a.data= .fields c/\c[1]?=some d
def XO.ok{w:Ul}{H:Hp}{c:Uh}{d:Uh}(x:ExAt h e c j d):Yb P w H h e (XO e c j):=by let(f,g,i,p,o,n):=x;show((f,g,d,i,p,o,n),(f,i),λa b zz k=>by let(f,g,d,m,l):=zz;show(f,g,d,k _ m,l))
def XO.at{w:Ul}{H:Hp}{a:Uh}{c:Option Uj}(x:Yb P w H h e (XO e a c)):∃b,ExAt h e a c b:=by let((k,d,b,j,i,g,f),_):=x;show(b,k,d,j,i,g,f)
def CX1(P:Uk)(w:Ul):CXT:=λa H s E e c=>∃(d T:Uj) (b:Uh) (g:Option Uj) (f:Hp),e= .ref d/\c.os=s.os/\AllBare c.gens/\Un (frs a) [] H f s.heap c.heap/\HOk P w f c.heap/\
 (s⁻¹<=d/\s⁻¹<=T)/\f d=some (XO d b g)/\(f T=none/\T≠d)/\ExAt c.heap d b g (.ref T)/\TbAt c.heap T .none/\E b g f
structure Leaves(X:Cx)(E:XK):Prop where
 stk:X.stack=X.env::X.outer
 fr:X.env.frame=some X.env.locals
 ex:X.ex=[]
 xe:∀e s',⇑X (leaving X.env e) (λ_ s''=>CX1 X.prog X.w X.outer X.H₀ X.s₀ E e s'') (λe' s''=>CX1 X.prog X.w X.outer X.H₀ X.s₀ E e' s'') s'->X.xe e s'
def G8{w:Ul}{K:Ae}{s:Ui}{H:Hp}{E:XK}:
  Leaves (cxOf (CX1 P w) P w K mg base N qual scope f cd A outer s H E) E:=(rfl,rfl,rfl,λ_ _ h=>h)
def Yq0{w:Ul}{H:Hp}{a:Uj}{o:HO}(x:Yb P w H h a o):∃u,h.get? a=some u:=by
 cases o with
 | lst c=>let(_,_,_,_,e):=x;show(_,e)
 | tup c=>let(_,_,_,(_,e,_)):=x;show(_,e)
 | dK b=>let(_,_,_,_,o,_,_,e,_):=x;show(_,e)
 | dT b=>let(_,_,_,_,o,_,_,e,_):=x;show(_,e)
 | set S n=>let(o,_,_,_,e,_):=x;show(_,e)
 | ins C m d=>let(_,_,_,e,_):=x;show(_,e)
 | own y=>show x
 | xd d=>let(_,(_,_,_,e,_),_):=x;show(_,e)
 | rng k l=>let(_,_,_,e):=x;show(_,e)
 | frz j u=>let(e,_):=x;show(_,e)
 | tbl i=>show(_,x)
 | met f y=>show(_,x)
 | ext g=>show x.2.1
section
variable{X:Cx}{E:XK}{pins:PLO}{σ:L2.St}{H:Hp}{s:Ui}{e T:Uj}{cls:Uh}{dd:Option Uj}{xs:List Uj}{h1:Um}{fl:Uh}
def Fy{w:Ul}(g:HOk P w H h)(a:H e=some (XO e cls dd))(x:ExAt h' e cls dd f)(k:∀b u o,H b=some u->b≠e->h.get? b=some o->h'.get? b=some o):HOk P w H h':=λb u q=>by
 by_cases d:b=e
 .subst d;rw[a] at q;cases q;show XO.ok x
 .refine(g b u q).stay (λc v i r=>?_) (λ_ z=>z) λ_ _ z=>z;rcases i with z|z
  .rw[z] at r |-;show k b u v q d r
  .refine k c _ v z (λy=>?_) r;rw[y,a] at z;cases z
def O5(L:Leaves X E)(I:'v')(a:∀b∈xs,(H b=none\/b=e)/\X.s₀⁻¹<=b)(Q:e∈xs)(F:H e=some (XO e cls dd))(j:s⁻¹<=T)(k:T≠e)
  (J:ExAt h1 e cls dd (.ref T)) (N:TbAt h1 T fl) (f:Flown (frsE X.stack) xs s.heap h1) (R:E cls dd H):
  wpAny M A (setFlight (.ref e) none) (λ_ p=>CX1 X.prog X.w X.outer X.H₀ X.s₀ E (.ref e) p) U {s with heap:=h1}:=by
 have G:s.heap.get? T=none:=Heap.get?_none_of_le j;show Sb (s:={s with heap:=h1}) J N k λW D K x l=>?_;have h:∀b o,s.heap.get? b=some o->b≠T:=λb o q z=>by rw[z,G] at q;cases q
 have v:∀b o,X.s₀.heap.get? b=some o->b∉frs X.outer->b∉frsE X.stack:=λb o q d z=>by
  rw[L.stk] at z;have C:b∈(X.env::X.outer).filterMap (·.frame):=z;rw[Mg,L.fr] at C;rcases Ak.mp C with y|y
  .show absurd (Dd q) (by rw[y];show Nat.not_lt.mpr I.ok.above)
  .show d y
 have i:∀b o,X.s₀.heap.get? b=some o->b∉xs:=λb o q z=>absurd (Dd q) (Nat.not_lt.mpr (a b z).2);have c:∀b:Uj,b∉X.ex:=λb z=>by rw[L.ex] at z;cases z
 have S:X.s₀⁻¹<=T:=ni I.sz j;show(e,T,cls,dd,H,rfl,I.os,I.bare,(λb o q n d _=>?_,λb o q n d _=>?_,λb o q n _=>I.base.free b o q n (c b),λb o q _=>?_,I.base.tups,I.base.frzs,I.base.tbls),?_,((a e Q).2,S),F,(?_,k),D,K,R)
 .have g:=I.base.keep b o q n d (c b);show x b o (h b o g) (f.keep b o g (v b o q d) (i b o q))
 .let(V,g):=I.base.slot b o q n d (c b);have B:b∈frsE X.stack:=by change b∈X.stack.filterMap (·.frame);rw[L.stk,Mg,L.fr];show An _ d
  let(m,t):=f.slot b _ g B (i b o q);show(m,x b _ (h b _ g) t)
 .let(P,g):=I.base.there b o q (c b);let(O,t):=f.there b P g;show l b O t
 .refine Fy I.hok F D λb u o q d r=>x b o (h b o r) (f.keep b o r (λz=>?_) λz=>?_)
  .have:=I.stkFree b z;rw[q] at this;cases this
  .rcases(a b z).1 with y|y
   .rw[q] at y;cases y
   .show d y
 .cases q:H T with
  | none=>rfl
  | some u=>let(o,z):=Yq0 (I.hok T u q);rw[G] at z;cases z
def Yt3(L:Leaves X E):Fo (CX1 X.prog X.w) X E:=by
 rintro pins σ H s e o I ⟨v,T,cls,dd,x,u,p,a,m,c,⟨t,r⟩,g1,⟨g2,g3⟩,l,n,q⟩;subst u;have J:Inv X pins σ x o:=I.call' (ch:=[]) p m c a λb z=>absurd z 's';have f:∀b,s⁻¹<=b->X.s₀⁻¹<=b:=λb d=>ni I.sz d;show L.xe _ _ ?_;ext leaving;show Ac (El (outer:=X.outer) (base:=X.base) (L:=X.env.locals) (by rw[<-L.stk];show J.ok.frames) (by rw[<-L.stk];show J.stack) L.fr l n g3 λh1 y k j i h g=>?_);show O5 (xs:=[v,T]) L J (λb d=>?_) 's' g1 k j i h (by rw[L.stk];show g) q;rcases Ak.mp d with z|z
 .rw[z];show(.inr rfl,f _ t)
 .rw[Af.mp z];show(.inl g2,f _ r)
def Yp9(L:Leaves X E)(I:'v')(h:H e=some (XO e cls dd))(i:ExAt s.heap e cls dd .none)(h0:X.s₀⁻¹<=e)(k:E cls dd H):X.xe (.ref e) s:=by show L.xe _ _ ?_;ext leaving;show Ac (Z96 (outer:=X.outer) (base:=X.base) (L:=X.env.locals) (by rw[<-L.stk];show I.ok.frames) (by rw[<-L.stk];show I.stack) L.fr i λh1 l g f d c a=>?_);show O5 (xs:=[e]) L I (λb j=>?_) 's' h g f d c (by rw[L.stk];show a) k;rw[Af.mp j];show(.inr rfl,h0)
def XN(e:Uj)(cls:Uh)(dd:Option Uj):HO:= .ext λh=>ExAt h e cls dd .none
def XN.ok{w:Ul}{H:Hp}(x:ExAt h e cls dd .none):Yb P w H h e (XN e cls dd):=by show(x,?_,λa b y k=>y.at k);let(c,_,h1,_):=x;show(c,h1)
def Yf1(I:'v')(he:H e=some (XN e (.ref C) none))(S:ExcSet X.K C f)(ry:RelV y u)
  (h:∀dx s',H dx=none->Inv X pins σ (upd (upd H dx (.xd [#v[f,y]])) e (XN e (.ref C) (some dx))) s'->Q () s'):wpAny (model X.prog X.w) A (setAttr (.ref e) f u) Q E' s:=by
 let(oe,vs,h1,(h2,h3),h4,h5):=(show ExAt s.heap e (.ref C) none .none from(I.hok e _ he).1);have nde:s⁻¹≠e:=nq (Dd h1);have fr:H s⁻¹=none:=I.hok.fresh (na _);show Ep I.kIn S h1 h2 h3 h4 λh' tk' a1 a2 a3=>h s⁻¹ _ fr (I.un (t':=tk') (λb o q n _ _=>?_,λb o q n _ _=>?_,λb o q n _=>?_,λb o q _=>?_,λb xs q=>?_,λb o u q=>?_,λb ps q=>?_) λb w' q=>?_)
 .show a3 b o (λz=>by rw[z,he] at n;cases n) q
 .exact(o.slots,a3 b o (λz=>by rw[z,he] at n;cases n) q)
 .rw[Z6 (λz=>by rw[z,he] at n;cases n),Z6 (nj (Dd q))];show n
 .by_cases hb:b=e
  .exact(_,by rw[hb];show a1)
  .exact(o,a3 b o hb q)
 .rw[Z6 (λz=>by rw[z,he] at q;cases q),Z6 (λz=>by rw[z,fr] at q;cases q)];show q
 .rw[Z6 (λz=>by rw[z,he] at q;cases q),Z6 (λz=>by rw[z,fr] at q;cases q)];show q
 .exact(#[],by rw[Z6 (λz=>by rw[z,he] at q;cases q),Z6 (λz=>by rw[z,fr] at q;cases q),q];simp)
 .by_cases hb:b=e
  .subst hb;rw[Zc] at q;cases q;show XN.ok (_,vs,a1,(h2,rfl),h4,h5)
  .rw[Z6 hb] at q;by_cases hd:b=s⁻¹
   .subst hd;rw[Zc] at q;cases q;show(_,a2,λg=>?_);by_cases hg:g=f
    .subst hg;erw[Ij,beq_self_eq_true,if_true];show ry
    .have hb:(g==f)=false:=by simpa using hg
     erw[Ij,hb,List.lookup_nil,if_neg hg];trivial
   .rw[Z6 hd] at q;show(I.hok b w' q).stay (λc v hc r=>a3 c v ?_ r) (λc z=>?_) λc xs z=>?_
    .intro z;rcases hc with y|y
     .show hb (y.symm.trans z)
     .rw[z,he] at y;cases y
    .rw[Z6 (λy=>by rw[y,he] at z;cases z),Z6 (λy=>by rw[y,fr] at z;cases z)];show z
    .rw[Z6 (λy=>by rw[y,he] at z;cases z),Z6 (λy=>by rw[y,fr] at z;cases z)];show z
end
section
variable{X:Cx}{pos pos':Pos}{o value:Expr}{f:Str}{ta tv:TE}
def sExc(K:Ae)(ta tv:TE)(f:Str):TS:=λD a H=>tv a H λy d=>ta a d λx c=>∃e C,x= .ref e/\c e=some (XN e (.ref C) none)/\ExcSet K C f/\∀b,c b=none->D.nx a (upd (upd c b (.xd [#v[f,y]])) e (XN e (.ref C) (some b)))
def Yp7(n:PE X o ta)(k:PE X value tv)(l:swapsWith value (some (.Attribute o f pos')) pos.line X.env=pure false):PS X (.Assign [.Attribute o f pos'] value pos) (sExc X.K ta tv f):=by intro a s b H D I h;show plainObj_wpAny_Assign_Attribute (thn (k a s b H _ I h) λu c (y,A,z,d,q)=>thn (n a c b A _ z q) λj E zz=>?_) l;let(x,F,w,g,e,C,p,r,S,i):=zz;subst p;obtain rfl:j=Value.ref e:=g;show Yf1 w r S d λt B m v=>(b,_,v,i t m)
end
structure ExcMk(K:Ae)(C f:Uj):Prop where
 cls:∃nm q N bs bm hdct sn sub ab col dd k0 k1 k2 k3 k5,K.lookup C=some (excClassObj nm q C N bs bm hdct sn sub ab col dd k0 k1 k2 k3 k5 "ValueError.__new__")/\(Value.ref C::bm).contains (.type "ValueError")=true/\
  (Value.ref C::bm).contains (.type "AttributeError")=false/\(Value.ref C::bm).contains (.type "NameError")=false/\(Value.ref C::bm).contains (.type "BaseException")=true
 init:Iy K (.ref C) "__init__"=some (↑f)
 fn:PySem.W.isFn K (.ref f)=true
 kp:Hm K (.ref C)=true
def ExcMk.at{K:Ae}(M:ExcMk K C f)(k:K.In h):∃e q N o p a d b r c n m l j i g,ExcCls h C e q N o p a d b r c n m l j i g "ValueError" "ValueError.__new__":=by let(e,q,N,o,p,a,d,b,r,c,n,m,l,j,i,g,w,v,u,t,s):=M.cls;show(e,q,N,o,p,a,d,b,r,c,n,m,l,j,i,g,k _ _ w,v,u,t,s)
section
variable{X:Cx}{k:Nat}{f C:Uj}{fd:FuncData}{ps:LS}{sp:Sp}{dvs:LV}{ds:LW}{pins:PLO}{σ:L2.St}{H:Hp}{s:Ui}{us:LW}{vs:LV}
def Zz0{Q:Uj->Hp->Prop}{E':VSP}(M:ExcMk X.K C f)(F:FnOk X.prog X.w X.K X.mg X.base CX0 k f fd ps sp)(J:Room (k+1) X.A)(R:Yo X.K fd ps ds)(P:Vals dvs ds)(I:'v')(r:Vals vs us)(hz:us.length<=sizeLine)
  (h:∀e,H e=none->sp (.ref e::(vs++dvs)) (upd H e (XN e (.ref C) none)) (λv H2=>v= .non/\Q e H2) E0):
  ⇑X (call (.ref C) us) (λu s'=>∃e H',u= .ref e/\Inv X pins σ H' s'/\X.s₀⁻¹<=e/\X.K.In s'.heap/\Q e H') E' s:=by
 let(nm,q,N,bs,bm,x,sn,z,ab,Y,dd,k0,k1,k2,k3,k5,Z):=M.at I.kIn;have S:H (s⁻¹+1)=none:=I.hok.fresh (mn _);have p:=h (s⁻¹+1) S;have j:((s.heap.push (Fj us)).push (Pm C s⁻¹)).get? (s⁻¹+1)=some (Pm C s⁻¹):=by heap_get
 have n:Inv X pins σ (upd H (s⁻¹+1) (XN (s⁻¹+1) (.ref C) none)) {s with heap:=(s.heap.push (Fj us)).push (Pm C s⁻¹)}:=
  I.laid (a:=s⁻¹+1) (t':=s.toks) (λb u e=>Ah _ (Ah _ e)) (mn _) (XN.ok (_,_,j,(rfl,rfl),rfl,rfl))
 have o:Vals (V.ref (s⁻¹+1)::(vs++dvs)) (Value.ref (s⁻¹+1)::(us++ds)):= .cons rfl (r.append P);have L:(Value.ref (s⁻¹+1)::us++ds).length=ps.length:=by have e:=o.length;rw[F.len _ _ _ _ p] at e;show e.symm
 have B:X.s₀⁻¹<=s⁻¹+1:=ni I.sz (mn _);show Ly ?_;have O:=PySem.W.looks_findIn (M:=model X.prog X.w) I.kIn M.init;have m:=λi=>PySem.W.bind_fn (M:=model X.prog X.w) I.kIn i (beq_iff_eq.mp M.fn);let(l,g,d,t,os):=s;show Zu0 PySem.F.excBase_ValueError Z O m (Kw (F.run _ X.stack _ _ (Value.ref (l.objs.size+1)::us,[]) (Value.ref (l.objs.size+1)::(us++ds)) _ _ E0 (J.make C us []) (n.env0.make C us []) (R _ (Value.ref (l.objs.size+1)::us) n.kIn L) o p) λE s' c=>?_) hz;cases E with
 | error e=>show Dq c
 | ok T=>
  cases T with
  | ret u=>let(v,H',y,D,U,G):=n.after c;subst U;show(D,l.objs.size+1,H',rfl,y,B,y.kIn,G)
  | next=>show Dq c
  | brk=>show Dq c
  | cont=>show Dq c
def Nl{E:VSP}{s:Ui}{x:Sem Uh}(P:A.handled=none)
  (h:wpAny M A x (λv i=>∃(e:Uj) (p q:Str) (N:Uj) (J K:LW) (a:Bool) (o:LS) (b:LW) (L:Bool) (l:Option Bool) (I:Option Uj) (y w u t r:Option Uh) (G:Option Uj),
   v= .ref e/\ExcCls i.heap C p q N J K a o b L l I y w u t r "ValueError" "ValueError.__new__"/\ExAt i.heap e (.ref C) G .none/\E (.ref e) i) E s):
  wpAny M A (raiseStmt env (some x) none) Q E s:=by
 ext raiseStmt;show Ac (Hl h (λv i n=>?_) λ_ _ z=>z);let(e,p,q,N,J,K,a,o,b,L,l,I,y,w,u,t,r,G,rfl,T,(O,vs,R,(D,j),B,n),S):=n;let(F,_,_,_,m):=T;let(Y,g,d,U,W):=i;let(c,dc,Z,V):=O;dsimp only at D j B;subst D j B
 repeat (first | with_reducible show Lk R ?_ | with_reducible show Lk F ?_ | (with_reducible show Mi F ?_;rw[m]) | wp_step)
 rw[n];show Ao ?_;rw[nc 'd'];show Ao (wpAny_raiseNew_none P S)
def Y31(C:Uj)(sp:Sp)(dvs:LV)(E:XK)(t:TA):TS:=λ_ σ H=>t σ H λvs c=>vs.length<=8/\∀e,c e=none->sp (.ref e::(vs++dvs)) (upd c e (XN e (.ref C) none)) (λv b=>v= .non/\∃a,b e=some (XN e (.ref C) a)/\E (.ref C) a (upd b e (XO e (.ref C) a))) E0
def Z23{E:XK}{vs:LV}(L:Leaves X E)(M:ExcMk X.K C f)(F:FnOk X.prog X.w X.K X.mg X.base CX0 k f fd ps sp)(R:Room (k+1) X.A)(T:Yo X.K fd ps ds)(S:Vals dvs ds)(I:'v')(r:Vals vs us)(hz:vs.length<=8)
  (h:∀e,H e=none->sp (.ref e::(vs++dvs)) (upd H e (XN e (.ref C) none)) (λv H2=>v= .non/\∃b,H2 e=some (XN e (.ref C) b)/\E (.ref C) b (upd H2 e (XO e (.ref C) b))) E0):
  ⇑X (call (.ref C) us) (λv c=>∃(e:Uj) (l q:Str) (N:Uj) (y B:LW) (a:Bool) (j:LS) (d:LW) (D:Bool) (i:Option Bool) (b:Option Uj) (u t p o n:Option Uh) (Y:Option Uj),
   v= .ref e/\ExcCls c.heap C l q N y B a j d D i b u t p o n "ValueError" "ValueError.__new__"/\ExAt c.heap e (.ref C) Y .none/\X.xe (.ref e) c) X.xe s:=by
 show thn (Zz0 (Q:=λe H2=>∃b,H2 e=some (XN e (.ref C) b)/\E (.ref C) b (upd H2 e (XO e (.ref C) b))) M F R T S I r (by rw[<-r.length];show ni hz 'd') h) λv c zz=>?_;let(e,H',W,J,O,m,g,G,U):=zz;let(l,q,N,y,B,a,j,d,D,i,b,u,t,p,o,n,Z):=M.at m;have x:ExAt c.heap e (.ref C) g .none:=(J.hok e _ G).1;have I2:Inv X pins σ (upd H' e (XO e (.ref C) g)) {c with heap:=c.heap,toks:=c.toks}:=
  J.write (x:=e) (e:=e) (by rw[G];show Ld) (.inl rfl) (λ_ _ _ z=>z) (by let(P,_,z,_):=x;show(P,z)) (XO.ok x)
 show(e,l,q,N,y,B,a,j,d,D,i,b,u,t,p,o,n,g,W,Z,x,Yp9 L I2 Zc x O U)
def Zm1{E:XK}{x:Str}{l b pos:Pos}(L:Leaves X E)(O:X.calm=true)(M:ExcMk X.K C f)(F:FnOk X.prog X.w X.K X.mg X.base CX0 k f fd ps sp)(y:Room (k+1) X.A)(P:Yo X.K fd ps ds)(J:Vals dvs ds)(G:Gl X x)(B:X.mg x=↑C)
  (g:(x==("__debug__":Str))=false:=by decide):PS X (.Raise (some (.Call (.Name x l) [] [] b)) none pos) (Y31 C sp dvs E tNil):=by
 intro pins s σ H D I h;let(u,h):=h;rw[arm_exec_Raise];erw[show ∀e v,evalOpt (some e) v=some (eval e v) from λ_ _=>rfl,show ∀v,evalOpt none v=none from λ_=>rfl,Option.map];show Ac (Mn (Nl (C:=C) (I.ok.hd O) ?_));show Ac (Hl (Q:=λv c=>∃(e:Uj) (m q:Str) (N:Uj) (T U:LW) (a:Bool) (j:LS) (d:LW) (V:Bool) (i:Option Bool) (S:Option Uj) (t r p o n:Option Uh) (R:Option Uj),
   v= .ref e/\ExcCls c.heap C m q N T U a j d V i S t r p o n "ValueError" "ValueError.__new__"/\ExAt c.heap e (.ref C) R .none/\X.xe (.ref e) c) ?_ (λv c z=>Ac (Mn (Ao z))) λ_ _ z=>z)
 show Ik (Wh I G B ?_ g);show PySem.W.callWith_K0 I.kIn M.kp (Z23 (us:=[]) L M F y P J I .nil u h)
end
end L3
namespace L3
open PySem PySem.W PySem.Calls PyProof.Rows Builtin Builtin.ObjectAttr
section
variable{prog:Uk}{w:Ul}{A:Around}{E:VSP}{K:Frag}{C D e:Uj}{s:Ui}
structure ExcIs(K:Frag)(C:Uj):Prop where
 cls:∃cd,clsIn K C=some cd/\cd.hasDict=true
 ga:findIn K (.ref C) "__getattribute__"=some (some (.builtin "BaseException.__getattribute__"))
 gh:findIn K (.ref C) "__getattr__"=some none
 base:mroIn K C (.type "BaseException")=some true
 own:findIn K (.ref C) "__class__"=some (some (.builtin "object.__class__"))
 ds:specialIn K (.builtin "object.__class__") "__get__"=some (some (.builtin "getset_descriptor.__get__"))
 tk:takesIn K (.builtin "object.__class__")=some true
 obj:mroIn K C (.type "object")=some true
def Zj4(X:K.In s.heap)(S:ExcIs K C)(J:InstAt s.heap e B C (some od))(h:Q (↑C) {s with toks:=s.toks+1}):
  wpAny (model prog w) A (getAttr? (.ref e) "__class__") Q E s:=by
 let((L,p,o),m,l,b,c,n,j,f):=S;let(k,g,d,t,x):=s;have G:findObj K C (some od) "__class__"=some (.bind (.builtin "getset_descriptor.__get__") (.builtin "object.__class__")):=findObj_data (by rw[p];rfl) c n j;have u:=J.type (M:=model prog w);have I:=looks_findIn (M:=model prog w) X m;have H:=looks_findIn (M:=model prog w) X l;have q:=looks_find (M:=model prog w) X J G;have i:Looks (model prog w) k (isInstance (.ref e) (.type "BaseException")) true:=u.andThen (looks_mroIn X b);unfold getAttr? getAttrBy? getAttrBy;show Ac (wpAny_mkText (Ac (wpAny_attempt (Ka (Ac (u.at (Ac (I.at ?_))))))));change wpAny _ _ (getAttrByItsOwn _ _ _ _ _ _) _ _ _;ext getAttrByItsOwn;show Ac (H.at (Ac (wpAny_attempt (Ka ?_))));ext callGetattribute;rw[nc 'd'];ext boundAndCalled;rw[Yd3];show Ac (Ao (Ly ?_));show codeAny_call_builtin Zt1 F.entry_bexc_ga (@check_slot (model prog w) _ _ _ "BaseException.__getattribute__" "BaseException" "__getattribute__" (.ref e) [.str "__class__" t] [] _ Y60 Y02 i (Y57 (.ref e) (.str "__class__" t)) ?_);change wpAny _ _ (typeOf (.ref e) >>=λy=>find (.ref e) y "__class__" >>=_) _ _ _;show Ac (u.at (Ac (q.at ?_)));have a:=class_get (prog:=prog) (w:=w) (A:=A.in1) (s:=(k,g,d,t+1,x)) (tp:= .ref C) (R:=λr v=>r= .ok (.ret (.ref C))/\v=(k,g,d,t+1,x)) X J f (rfl,rfl);ext bindTo;show Ac (Ka (Ly (Kw a λr v z=>?_)));let(rfl,rfl):=z;show Ao ?_;change wpAny _ _ (handedOut (.ref C)) _ _ _;show handed_on rfl (Ao h)
end
end L3
namespace L3
open PySem PySem.Spec PyProof.Rows L2
section
variable{K:Ae}{C e:Uj}
def Z40(S:ExcIs K C):PySem.W.KitX K (.ref e) (.ref C) (λh=>PySem.W.InstAt h e f C (some od)) where
 ty:=λ_ _ _ I=>I.type
 it:=λ_ _ X _=>by
  let(i,a,_):=S.cls;ext a Ua;split at a
  .rename_i c;intro r o p l k q;unfold isType loadHead;show Ac (wpAny_loadPart (k _ _ (X _ _ c)) (Ao q))
  .cases a
 ne:=λh d m g n j X b=>by
  let(i,a,_):=S.cls;show Bool.eq_false_iff.mpr λq=>?_;have z:C=d:=Value.ref.inj (beq_iff_eq.mp q);subst z;ext a Ua;split at a
  .rename_i c;have y:=(X _ _ c).symm.trans b;cases y
  .cases a
 ca:=λX I k=>Zj4 X S I k
variable{X:Cx}{pins:PLO}{σ:L2.St}{H:Hp}{s:Ui}{dx:Uj}{fs:List (Str×V)}
def By(I:'v')(i:H e=some (XO e (.ref C) (some dx)))(j:H dx=some (.xd fs)):∃(b od:Obj) (a:Str->Option Uh),PySem.W.InstAt s.heap e b C (some od)/\(∀name,PySem.W.lookIn name od=some (a name))/\∀f,RelO (fs.lookup f) (a f):=by let(p,b,o,n,(m,l),k,_):=XO.at (I.hok e _ i);let(a,h,g):=(show Yb X.prog X.w H s.heap dx (.xd fs) from I.hok dx _ j);let(od,d,c):=E1 h;show(b,od,a,(n,m,by ext PySem.W.notCls;rw[k],by rw[l];show d),c,g)
def rIsX(K:Ae):LV->Hp->VK->Prop:=λd H Q=>∃e C dx fs c a b,d=[.ref e,c]/\H e=some (XO e (.ref C) (some dx))/\H dx=some (.xd fs)/\ExcIs K C/\(∀u,RelV c u->u=a)/\Kk K (.ref C) a=some b/\Q (.bl b) H
def Bc:Xm X (.builtin "isinstance") (rIsX X.K):=by intro pins s σ H l m Q I r h;let(e,C,dx,fs,c,t,b,rfl,g,i,S,j,k,q):=h;let(u,v,rfl,f,d):=Ct r;obtain rfl:u=Value.ref e:=f;cases j v d;let(n,o,p,J,_):=By I g i;show Kc (Z40 S) I.kIn J k (λz=>nomatch z) λa=>(.bl b,H,I.tok a,rfl,q)
end
def XP(X:Cx)(pins:PLO)(d:L2.St)(E:XK)(x:Uh)(s':Ui):Prop:=∃(e T:Uj) (a:Uh) (c:Option Uj) (b:Hp),x= .ref e/\Inv X pins d b s'/\FpOk X pins b T/\T≠e/\b e=some (XO e a c)/\
 ExAt s'.heap e a c (.ref T)/\TbAt s'.heap T .none/\E a c b
abbrev TEX:=L2.St->Hp->VK->XK->Prop
abbrev TSX:=Ends->XK->L2.St->Hp->Prop
def PEX(X:Cx)(e:Expr)(t:TEX):Prop:=
 ∀(a:PLO) (s:Ui) (b:L2.St) (H:Hp) (Q:VK) (E:XK),Inv X a b H s->t b H Q E->⇑X (eval e X.env) (EP X a b Q) (XP X a b E) s
def PSX(X:Cx)(st:List Stmt)(t:TSX):Prop:=
 ∀(a:PLO) (s:Ui) (b:L2.St) (H:Hp) (D:Ends) (E:XK),Inv X a b H s->t D E b H->⇑X (execs st X.env) (SP X a D) (XP X a b E) s
section
variable{X:Cx}{k:Nat}{f:Uj}{fd:FuncData}{ps:LS}{sp:Sp}{dvs:LV}{ds:LW}{x:Str}{p pos:Pos}{e:Expr}{es:List Expr}{t:TA}
def Yk4{c:L2.St}{H:Hp}{s s':Ui}{E:XK}{x:Uh}(I:Inv X pins c H s)(h:CX1 X.prog X.w X.stack H s E x s'):XP X pins c E x s':=by let(u,T,g,v,i,r,n,a,l,d,(y,q),g1,(g2,g3),j,m,o):=h;have J:Inv X pins c i s':=I.call' (ch:=[]) n l d a λb z=>absurd z 's';show(u,T,g,v,i,r,J,I.fpOk q g2,g3,g1,j,m,o)
def Y39(sp:Sp)(dvs:LV)(t:TA):TEX:=λa H Q E=>t a H λb c=>sp (b++dvs) c Q E
def Zq6(F:FnOk X.prog X.w X.K X.mg X.base (CX1 X.prog X.w) k f fd ps sp)(y:Room k X.A)(G:Gl X x)(B:X.mg x=↑f)(D:Hm X.K (.ref f)=true)(M:Yo X.K fd ps ds)(L:Vals dvs ds)
  (N:PA X.nox (e::es) t) (j:(x==("__debug__":Str))=false:=by decide) (J:starEach (e::es) X.env=#v[false,eval e X.env]::starEach es X.env:=by rfl) (i:(backTo pos (starEach es X.env)).any (·.1)=false:=by rfl):
  PEX X (.Call (.Name x p) (e::es) [] pos) (Y39 sp dvs t):=by
 intro a s l H Q E I h;show Ik (Wh I G B ?_ j);show PySem.W.callWith_K (h₀:=X.base) I.ok.mod.kin D (Hl (N pos a s l H _ (I.wish _) h) (λb g zz=>?_) λ_ _ z=>z.elim) J i;let(m,o,P,r,q):=zz;have d:Inv X a l o g:=P.unwish;show(d.kIn,?_);have n:Vals (m++dvs) (b++ds):=r.append L;have C:(b++ds).length=ps.length:=by rw[<-n.length];show F.len _ _ _ _ q
 show Ly (Kw (F.run X.A X.stack g o (b,[]) (b++ds) (m++dvs) Q E y d.env0 (M g b d.kIn C) n q) λv R c=>?_);cases v with
 | error z=>show Yk4 d c
 | ok O=>
  cases O with
  | ret u=>show d.after c
  | next=>show Dq c
  | brk=>show Dq c
  | cont=>show Dq c
variable{te:TEX}
def Yh5(te:TEX):TSX:=λD E a H=>te a H (λ_ b=>D.nx a b) E
def Zx1(d:PEX X e te)(c:swapsWith e none pos.line X.env=pure false:=by rfl):PSX X [.Expr e pos] (Yh5 te):=by intro a s b H D E I h;show Mz (wpAny_Expr_any (thn (d a s b H _ E I h) λu l g=>?_) I.quiet c);let(v,j,i,r,q):=g;show Lr (b,j,i,q)
def Yv1(te:TEX):TSX:=λD E a H=>te a H D.rt E
def Y65(c:PEX X e te):PSX X [.Return (some e) pos] (Yv1 te):=by intro a s b H D E I h;show Mz (wpAny_Return_some (thn (c a s b H _ E I h) λu j d=>?_));let(v,i,g,r,q):=d;show(v,b,i,g,r,q)
def Yr9(te:TEX)(i:Nat):TSX:=λD E a H=>te a H (λy b=>D.nx (a.set i (some y)) b) E
def Y63{i:Nat}{x:Str}{a:Pos}(o:X.N.Nodup)(hi:X.N[i]?=some x)(j:Loc X.env.scope x)(n:PEX X e te)(l:swapsWith e (some (.Name x a)) pos.line X.env=pure false:=by rfl)(m:X.fn x=true\/X.env.scope.names.lookup x=some .local:=by first | show .inl rfl | show .inr rfl | assumption):
  PSX X [.Assign [.Name x a] e pos] (Yr9 te i):=by
 intro b s c H D E I h;show Mz (wpAny_Assign_Name (thn (n b s c H _ E I h) λv A q=>?_) l);let(y,w,u,d,g):=q;show Z48 u o hi j d (λz r=>Lr (_,w,r,g)) m
end
def Held(X:Cx)(e:Uj):Cx:={X with A:=X.A.mark (↑e),calm:=false,xe:=λ_ _=>False}
section
variable{X:Cx}{pins:PLO}{σ:L2.St}{H:Hp}{s:Ui}{e:Uj}
def Y48(a:X.Ok)(e:Uj):(Held X e).Ok:=
 (a.mod,a.kind,a.glob,a.blt,a.above,a.inj,a.has,a.cab,(λz=>nomatch z),a.frames,a.stk,a.exf,a.bs,a.bsz,a.noex,a.exfs,a.funs,a.frf)
def Ya4(I:'v')(e:Uj):Inv (Held X e) pins σ H s:=(Y48 I.ok e,I.os,I.bare,I.base,I.loc,I.cell,I.free,I.freeC,I.pin,I.hok,I.len)
def Q0(a:X.Ok)(I:Inv (Held X e) pins σ H s):'v':=(a,I.os,I.bare,I.base,I.loc,I.cell,I.free,I.freeC,I.pin,I.hok,I.len)
def Zx2{T L:Uj}{w:Option Uj}(I:'v')(C:FpOk X pins H T)(t:H e=some (XO e g w))(x:ExAt f e g w (.ref L))(k:Flown (frsE X.stack) [e,T] s.heap f):
  Inv X pins σ H {s with heap:=f}:=by
 let(G,v,N,F,E,D):=C;have h:∀b,H b=none->b≠e:=λb n z=>by rw[z,t] at n;cases n
 have i:∀b o,b∉frsE X.stack->b≠T->b≠e->s.heap.get? b=some o->f.get? b=some o:=λb o d c a q=>k.keep b o q d (by simp[c,a]);have p:∀b o,b≠T->b≠e->s.heap.get? b=some o->∃l,f.get? b=some {o with slots:=l}:=λb o c a q=>by
  by_cases d:b∈frsE X.stack
  .show k.slot b o q d (by simp[c,a])
  .exact(o.slots,i b o d c a q)
 show I.step (g':=s.gens) (t':=s.toks) (d':=s.drawn) (ch:=[T]) (λb j=>?_) (λb o d c a q n=>i b o (λz=>?_) ↥a (h b n) q) (λb o _ _ a q n=>p b o ↥a (h b n) q) (λ_ _ _ _ n=>n)
  (λb o _ q=>k.there b o q) (λ_ _ q=>q) (λ_ _ _ q=>q) (λ_ M q=>(#[],by rw[q];simp)) (λm B=>?_) ?_ I.bare
 .rw[Af.mp j];show(F,v,E,D)
 .rcases Ak.mp (I.stkSub b z) with y|y
  .show d y
  .show c y
 .let(o,J,K,A,r):=B;let(l,q):=p _ o (Il v) (h _ I.free) A;show(_,J,K,q,r)
 .refine Fy I.hok t x λb u o q j r=>i b o (λz=>?_) (λz=>?_) j r
  .rw[I.stkFree b z] at q;cases q
  .rw[z,G] at q;cases q
def Z17{c:Uj}{a:Um}(I:'v')(d:FpOk X pins H c)(k:∀b o,b≠c->s.heap.get? b=some o->a.get? b=some o):Inv X pins σ H {s with heap:=a}:=by let(j,i,l,h,g,f):=d;show I.turned (t':=s.toks) k j i h g f
end
structure Catch(K:Ae)(C D:Uj)(b:Bool):Prop where
 ty:PySem.W.typeIn K (.ref D)=some (.type "type")
 cls:(Ua K D).isSome=true
 exc:Lv K D (.type "BaseException")=some true
 sub:Lv K C (.ref D)=some b
section
open PySem.W
def B2{w:Ul}{E:VSP}{K:Frag}{C D e:Uj}{b:Bool}{s:Ui}(X:K.In s.heap)(S:Catch K C D b)(m:s.heap.get? e=some f)(n:f.cls= .ref C)(h:Q b s):
  wpAny (model prog w) A (excMatches (.ref e) (.ref D)) Q E s:=by
 let(i,c,o,j):=S;let(a,g,d,t,z):=s;have x:Looks (model prog w) a (typeOf (.ref D)) (.type "type"):=looks_typeIn X i;have v:Looks (model prog w) a (isType (.ref D)) true:=by
  ext c clsIn;split at c
  .rename_i l;intro G B F y k q;unfold isType loadHead;show Ac (wpAny_loadPart (k _ _ (X _ _ l)) (Ao q))
  .cases c
 have u:Looks (model prog w) a (isSubtype (.ref D) (.type "BaseException")) true:=looks_mroIn X o;have r:Looks (model prog w) a (typeOf (.ref e)) (.ref C):=by rw[<-n];show(Looks.ld m).andThen .now
 have p:Looks (model prog w) a (isSubtype (.ref C) (.ref D)) b:=looks_mroIn X j;unfold excMatches isInstance;show Ac (Ac (x.at ?_));rw[tc_notTuple];show Ao ?_;erw[Bool.false_eq_true,if_false];show Ac (Ao ?_);rw[List.forIn_cons];show Ac (Ac ?_);ext isExcClass;show Ac (Ac (v.at ?_));erw[if_true];show u.at ?_;erw[Bool.not_true,Bool.false_eq_true,if_false];show Ao ?_;change wpAny _ _ (pure PUnit.unit) _ _ _;show Ao ?_;show Ac (r.at (Ac ?_));rw[List.forIn_cons];show Ac (Ac (p.at ?_));cases b with
 | true=>erw[if_true];show Ao (Ao (Ao h))
 | false=>erw[Bool.false_eq_true,if_false];show Ao ?_;change wpAny _ _ (pure #v[none,PUnit.unit]) _ _ _;show Ao (Ao h)
end
section
variable{X:Cx}{body suite:List Stmt}{b₀:Stmt}{x n:Str}{np hpos pos:Pos}{D:Uj}{i:Nat}{tb:TSX}{ts:TS}
def Ya9{P:Uk}{w:Ul}{K:Ae}{mg:Str->Option Uh}{base:Um}{x qual:Str}{st:Stmt}{f:Uj}{g:FuncData}{N ps:LS}{k:Nat}{sp:Sp}(F:Fun K x qual st f g)(S:FnScope N ps (Z7 st))(c:∀vs H Q E,sp vs H Q E->vs.length=ps.length)
  (b:∀(a:Uh) (A:Around) (outer:List Env) (s:Ui) (H:Hp) (vs:LV) (Q:VK) (E:XK),Room k (A.deeper (envOfC qual (Z7 st) s⁻¹ f a))->sp vs H Q E->
   ∃t,PSs (cxOf (CX1 P w) P w K mg base N qual (Z7 st) f a A outer s H E) (Y1 st) t/\t {nx:=λ_ o=>Q .non o,rt:=Q} (start N vs) H):FnOk P w K mg base (CX1 P w) (k+1) f g ps sp:=by
 let(r,q,v,u,m,p,z,a,y,h,rfl,j,e):=F.ex;show Zz9 j e S c λA outer s H vs Q E l d=>b a A outer s H vs Q E l d
end
end L3
namespace L3
open PySem PyProof.Rows
section
variable{prog:Uk}{w:Ul}{A:Around}{E:VSP}{s:Ui}
abbrev Y23(h:Um)(z d c:Uj)(a:Uh)(b:Bool):Prop:=
 h.get? z=some {cls:= .type "zip",dict:=none,data:= .fields #[a,.bool b,.bool false,.ref d,.ref c],slots:=#[]}
structure ZS(h0 h:Um)(S z TI TO i1 i2 l1 l2:Uj)(xs ys:Array Uh)(Ts:List Uj):Prop where
 kept:∀b o,h0.get? b=some o->h.get? b=some o
 zp:(Ts=[]/\Y23 h z TI TO .none false/\∃a b,IsPair h TO a b)\/∃(T:Uj) (b:Bool) (oT:Obj),Y23 h z TI TO (rawInt T) b/\h.get? T=some oT
 ti:IsPair h TI (.ref i1) (.ref i2)
 to:∃o,h.get? TO=some o
 t1:h.IsListIter i1 l1 Ts.length
 t2:h.IsListIter i2 l2 Ts.length
 nd:Ts.Nodup
 tp:∀(j:Nat) T,Ts[j]?=some T->∃x y,xs[j]?=some x/\ys[j]?=some y/\IsPair h T x y
 tb:∀T∈Ts,h0.objs.size<=T/\T≠z/\T≠TO/\T≠i1/\T≠i2/\T≠S
structure ZF(h0:Um)(S z TI TO i1 i2 l1 l2:Uj)(xs ys:Array Uh):Prop where
 D:ZipApart z TI TO i1 i2 l1 l2
 l1:h0.IsList l1 xs
 l2:h0.IsList l2 ys
 nz:h0.objs.size<=z
 nTO:h0.objs.size<=TO
 n1:h0.objs.size<=i1
 n2:h0.objs.size<=i2
 nS:h0.objs.size<=S
 sz:S≠z
 sTI:S≠TI
 sTO:S≠TO
 s1:S≠i1
 s2:S≠i2
end
end L3
namespace L3
open PySem PySem.Spec PyProof.Rows L2
def LayQ(Q:VK):LV->Hp->List (V×V)->Prop
 | a,H,[]=>∀l,H l=none->Q (.ref l) (upd H l (.lst a))
 | a,H,#v[x,y]::r=>∀T,H T=none->LayQ Q (a++[.ref T]) (upd H T (.tup [x,y])) r
section
variable{X:Cx}{pins:PLO}{σ:L2.St}{H H':Hp}{s:Ui}{h':Um}
def Tl:∀Ts:List Uj,Vals (Ts.map V.ref) (Ts.map Value.ref)
 | []=> .nil
 | _::r=> .cons rfl (Tl r)
end
section
variable{X:Cx}
def tRev(K:Ae)(e:TE)(tk:TO):TE:=λc H Q=>e c H λx f=>tk c f λo b=>o=some (-1)/\∃a d,x=V.ref a/\SqL K b a d/\∀p,b p=none->Q (.ref p) (upd b p (.lst d.reverse))
def Yk0{e k:Expr}(G:PE X e j)(F:PO X (some k) tk):PE X (.Subscript e (.Slice none none (some k) p2) pos) (tRev X.K j tk):=by intro c s f H Q I h;show Subscript_ (thn (G c s f H _ I h) λv p zz=>?_);let(x,N,L,t,y):=zz;show wpAny_Slice ?_;erw[evalPart_none];show Ao (Ao ?_);show thn (F c p f N _ L y) λi d zz=>?_;let(o,M,J,z,u):=zz;let(rfl,a,n,rfl,E,q):=u;cases t;have g:Inv X c f M {d with heap:=d.heap.push {cls:= .type "slice",data:= .fields #[.none,.none,i]}}:=J.kept (t':=d.toks) λb B q=>Ah _ q;let(C,r,l,D):=g.list E;have m:=r.length;change ⇑X (subscriptTail e (.Slice none none (some k) p2) (.ref a) (.ref d⁻¹)) (EP X c f Q) X.xe {d with heap:=d.heap.push {cls:= .type "slice",data:= .fields #[.none,.none,i]}};show tail_any (ops:=[.ref a,.ref d⁻¹]) l.isList.typeIs slot_list_getitem.lookup ?_ (by with_unfolding_all rfl);show wpAny_getItem_list_slice l.isList (Heap.IsSliceOf.new ..) .none .none z 's' ?_ (by rw[Aq]<;>lia);rw[PySem.W.krv_pick];show(.ref _,_,g.laid (t':=d.toks) (o:= .lst n.reverse) (λb B q=>Ah _ q) (na _) ?_,rfl,q _ (g.hok.fresh (na _)));show(by rw[Ht];show D,_,0,r.reverse,Dp _ rfl)
def Yp{a:List Int}(h:j<a.length):a.getD j 0=a[j]:=by rw[Ad,Aa h];rfl
def Yq8(K:Ae):V->LV->Hp->VK->Prop:=λx b H Q=>∃l a y k z,x= .ref l/\b=[y]/\SqL K H l a/\X4 y=true/\a.all X4=true/\a[k]?=some z/\eqV z y=true/\(∀(j:Nat) u,j<k->a[j]?=some u->eqV u y=false)/\Q (.int k) H
def Y07:MtR X "list.index" (Yq8 X.K):=by
 intro A s σ H x vs v us Q I O P h;let(l,t,y,k,z,rfl,rfl,S,Z,o,D,W,g,q):=h;cases O;let(u,rfl,R):=Vz P;let(a,r,p,hz):=I.list S;let((z0,dd,L,N),B,G,n,E):=p.isList;simp only at G E;subst G E;have C:=r.length;have T:=(Ab.mp D).1;have J:∀(j:Nat) (w:V),t[j]?=some w->∀m:j<a.toArray.size,eqU y a.toArray[j]=eqV w y:=by
  intro j w c m;let(M,f,d):=r.get c;have U:X4 w=true:=by rw[Ia] at o;show o w (Am c)
  have e:a.toArray[j]=M:=by have:=(Ab.mp f).2;simpa using this
  rw[e];show Zi0 d U
 have Y:=Tu;show Mq PySem.F.slot_list_index (_,B,rfl) PySem.F.entry_list_index (PySem.F.args_list_index_2 _ _)
  (SeqAt.list_indexAt l a.toArray n dd N u (eqU y) k (by rw[Aq];lia) 'o' ?_ ?_) (B,λw c=>Tv R Z r o w ↥c,(.int k,H,I.tok _,(_,rfl),q))
 .rw[J k z D];show W
 .intro j m i;have b:j<t.length:=by rw[Aq] at m;lia
  rw[J j _ (Aa b)];show g j _ i (Aa b)
def eqVs(vs ys:LV):Bool:=(Aj (min vs.length ys.length)).all (λj=>eqV (vs.getD j .non) (ys.getD j .non))&&vs.length==ys.length
def eqUT(H:Hp)(ys:LV):Uh->Bool
 | .ref a=>match H a with
  | some (.tup b)=>eqVs b ys
  | _=>false
 | _=>false
def Zs8{x:V}(h:X4 x=true):eqV x x=true:=by cases x<;>first | rfl | show decide_eq_true rfl | show beq_self_eq_true _ | (simp[eqV];done) | show absurd (show false=true from h) Bf9
def Zc1(h:xs.all X4=true):eqVs xs xs=true:=by ext eqVs;rw[Bz9,Ia];show(λj b=>?_,by simp);rw[Hj] at b;have a:j<xs.length:='o';rw[Ia] at h;rw[Ad,Aa a];show Zs8 (h _ (He a))
def Yn3{p:L2.St}{H:Hp}{s:Ui}(I:Inv X pins p H s)(J:A.units+2<cLine){a b:Uj}(n:H a=some (.tup vs))(k:H b=some (.tup ys))(l:vs.all X4=true)(o:ys.all X4=true):Hs A s (.ref a) (.ref b) (eqVs vs ys):=by
 by_cases e:a=b
 .subst e;rw[n] at k;cases k;rw[Zc1 l];show Hs.same _
 .let(g,m,v,_):=I.tuple (.of n);let(f,c,t,_):=I.tuple (.of k);have B:=m.length;have z:=c.length;have d:=SeqAt.RcAt.tuples (A:=A) (e:=λj=>eqV (vs.getD j .non) (ys.getD j .non)) v t 'o' (λj E D=>by
   have i:j<vs.length:=by rw[Aq] at E;lia
   have h:j<ys.length:=by rw[Aq] at D;lia
   let(u,G,y):=m.get (Aa i);let(w,F,x):=c.get (Aa h);have r:g.toArray[j]=u:=by have:=(Ab.mp G).2;simpa using this
   have q:f.toArray[j]=w:=by have:=(Ab.mp F).2;simpa using this
   rw[r,q,Ad,Ad,Aa i,Aa h];rw[Ia] at l o;show Z06 y x (l _ (He i)) (o _ (He h)))
  have C:((Aj (min g.toArray.size f.toArray.size)).all (λj=>eqV (vs.getD j .non) (ys.getD j .non))&&g.toArray.size==f.toArray.size)=eqVs vs ys:=by ext eqVs;rw[Aq,Aq,B,z]
  rw[C] at d;show Hs.of_refs e d
def Yg0{H:Hp}{s:Ui}{a b:Uj}(I:Inv X pins j H s)(k:∀c o,c≠a->c≠b->s.heap.get? c=some o->h'.get? c=some o)(h:FpOk X pins H a)(g:FpOk X pins H b):Inv X pins j H {s with heap:=h',toks:=t'}:=by
 have p:∀c u,H c=some u->c≠a:=by intro c u e z;rw[z,h.1] at e;cases e
 have l:∀c u,H c=some u->c≠b:=by intro c u e z;rw[z,g.1] at e;cases e
 have i:∀c o,c∉[a,b]->s.heap.get? c=some o->h'.get? c=some o:=by
  intro c o f e;show k c o ?_ ?_ e
  .intro z;apply f;rw[z];simp
  .intro z;apply f;rw[z];simp
 show I.step (ch:=[a,b]) (g':=s.gens) (d':=s.drawn) ?_ ?_ ?_ ?_ ?_ ?_ ?_ ?_ ?_ ?_ I.bare
 .intro c f;have:c=a\/c=b:=by simpa using f
  rcases this with rfl|rfl
  .exact(h.2.2.2.1,h.2.1,h.2.2.2.2.1,h.2.2.2.2.2)
  .exact(g.2.2.2.1,g.2.1,g.2.2.2.2.1,g.2.2.2.2.2)
 .intro c o _ _ f e _;show i c o f e
 .intro c o _ _ f e _;show(o.slots,i c o f e)
 .intro _ _ _ _ n;show n
 .intro c o f e;show(o,i c o f e)
 .intro _ _ e;show e
 .intro _ _ _ e;show e
 .intro c A e;show(#[],by rw[e];simp)
 .rintro m ⟨o,x,y,t,r⟩;show(o,x,y,k _ o (Il h.2.1) (Il g.2.1) t,r)
 .intro c u e;show(I.hok c u e).stay ?_ (λ_ q=>q) λ_ _ q=>q;intro d v w q;rcases w with z|z
  .subst z;show k d v (p d u e) (l d u e) q
  .show k d v (p d _ z) (l d _ z) q
def Ite(K:Ae)(a:Uj):It:=
 (λi H=>∃b x,SqL K H a b/\b[i]?=some x,λi H x c=>∃p y,H p=none/\c=upd H p (.tup [.int i,y])/\x= .ref p/\∀b,SqL K H a b->b[i]?=some y,λi H=>∃b,SqL K H a b/\b.length<=i)
def Z55{h:Um}{o u:Obj}{b:Uj}(e:(h.push o).get? b=some u):h.get? b=some u\/b=h.objs.size:=by
 by_cases a:b=h.objs.size
 .show .inr a
 .refine .inl ?_;have c:=Dd e;rw[Ln] at c;let(f,d):=Heap.get?_some_iff.mp e;show Heap.get?_some_iff.mpr (?_,d);cases h;simpa[Heap.push,Array.getElem?_push,a] using f
def Zd1{P:Uk}{w:Ul}{K:Ae}{elts:List Expr}{x1:Nat}{tp:Pos}(a e it:Uj)(t:e≠it):
  Turn P w K (.Tuple elts x1 tp) (Ite K a) [e,it] e (λi h=>(∃j,IsEnum h e it i j)/\h.IsListIter it a i) where
 mem:=by simp
 obj:=by
  rintro i h ⟨⟨j,n⟩,g⟩ b r;have:b=e\/b=it:=by simpa using r
  rcases this with rfl|rfl
  .exact(_,n,λv z=>by cases z)
  .let(o,e,c,d):=g;show(o,e,λv z=>by rw[d] at z;cases z)
 keep:=by rintro i h h' ⟨⟨j,n⟩,g⟩ k;show((j,k e 's' _ n),g.at λo z=>k it 's' o z)
 item:=by
  rintro X rfl rfl rfl V i l s S H E I D ⟨⟨j,n⟩,g⟩ ⟨xs,x,C,L⟩;let(J,F,p,hz):=I.list C;let(u,hu,ru):=F.get L;have fe:=D e 's';have Z:=D it 's';have G:e<s⁻¹:=Dd n;have U:it<s⁻¹:=by let(o,z,_):=g;show Dd z
  show wpAny_pyNext_enum_item n g p.isList (x:=u) ↥hu t λh1 ho y hT z0 hk=>?_;show(_,rfl,wpAny_letOwnedTupleGo_enum ho λO M m=>?_);replace m:Lh e h1 O:=m;have N:O.get? s⁻¹=some {cls:= .type "tuple",data:= .seq #[.int i s.toks,u]}:=(m.2 _ (nq G)).trans hT;have hn:H s⁻¹=none:=I.hok.fresh (na _);have I1:Inv X l S (upd H s⁻¹ (.tup [.int i,x])) {s with heap:=s.heap.push {cls:= .type "tuple",data:= .seq #[.int i s.toks,u]},toks:=s.toks+1}:=by show I.laid (λb ob q=>Ah _ q) (na _) (show 2<=sizeLine by rw[Mw];lia,[.int i s.toks,u],.cons (_,rfl) (.cons ru .nil),(_,Dp _ rfl,rfl,_,rfl))
  have B:∀b,b<s⁻¹->FpOk X l H b->FpOk X l (upd H s⁻¹ (.tup [.int i,x])) b:=by rintro b lb ⟨R,f⟩;show(?_,f);rw[Z6 (nj lb)];show R
  have I2:=Yg0 (h':=O) (t':=s.toks+1) I1 (λc o Y r e'=>by
   rcases Z55 e' with z|z
   .exact(m.2 c Y).trans (hk c o Y r z)
   .subst z;have T:(s.heap.push {cls:= .type "tuple",data:= .seq #[.int i s.toks,u]}).get? s⁻¹=some o:=e';rw[Dp _ rfl] at T;cases T;show N) (B e G fe) (B it U Z)
  show(.ref s⁻¹,_,I2,rfl,(_,x,hn,rfl,rfl,λys hy=>by rw[I.list_inj hy C];show L),((_,↥M),y.at λo z=>(m.2 it (Il t)).trans z),λb r=>?_);have:b=e\/b=it:=by simpa using r
  rcases this with rfl|rfl
  .exact(B _ G fe).1
  .exact(B _ U Z).1
 done:=by rintro X rfl rfl rfl V i l s S H E I D ⟨⟨j,n⟩,g⟩ ⟨xs,C,L⟩;let(J,F,p,hz):=I.list C;let(R,f1,f2,f3,f4,f5):=D it 's';have hl:=F.length;show wpAny_pyNext_enum_end (I.ok.hd V) n g p.isList (by simp;lia) λh' eb=>(rfl,I.turned (t':=s.toks) (λb o r e=>eb b o r e) R f1 f3 f4 f5)
 self:=by rintro A i s Q E ⟨⟨j,n⟩,g⟩ h;show wpAny_pyIter_enum n h
def Yu1(K:Ae)(f:TA):TI:=λc H R=>f c H λe b=>∃a,e=[V.ref a]/\(∃d,SqL K b a d)/\R (Ite K a) b
def Y73{n:Nat}{p pos:Pos}(C:Gl X "enumerate")(A:X.mg "enumerate"=none)(E:PA X [l] j)(y:starEach [l] X.env=[#v[false,eval l X.env]]):
  PI X (.Tuple elts n tp) (.Call (.Name "enumerate" p) [l] [] pos) (Yu1 X.K j):=by
 intro d s m H R I h;show Call_ (Ol I C A (u:= .type "enumerate") (by kernel_rfl) (PyProof.Rows.callWith_type1 (thn (E pos d s m H _ I h) λL c zz=>?_) y rfl));let(J,F,f,r,t):=zz;let(a,rfl,(G,z),q):=t;let(u,rfl,o):=Vz r;cases o;let(w,M,v,N):=f.list z;show call_enumerate_list v.isList λO k i x B=>?_;show wpAny_pyIter_enum k ?_;have g:c⁻¹+1≠c⁻¹:='o';show(c⁻¹+1,[c⁻¹+1,c⁻¹],_,_,F,rfl,f.kept (t':=c.toks) B,Zd1 a _ _ g,((_,k),i),λb D=>?_,q);have e:c⁻¹<=b:=by
  have:b=c⁻¹+1\/b=c⁻¹:=by simpa using D
  rcases this with rfl|rfl
  .show mn _
  .show na _
 show f.fpOk e (f.hok.fresh e)
end
end L3
namespace PySem
def Gx:typeLookup (.type "list") "keys"=pure none:=by rw[typeLookup_type,builtinLookup_eq_fast];kernel_rfl
def Yc2{w:Ul}{E:VSP}{s:Ui}{a:Uj}{o:Obj}{k:Nat}
  (n:s.heap.get? a=some o) (q:o.cls= .type "list") (b:o.data= .seq xs k) (p:o.dict=none) (i:typeLookup (.type "list") name=pure none) (f:(["__module__","__name__","__qualname__","__doc__","__annotations__"]:LS).contains name=false) (y:A.handled=none)
  (h:∀h' tk e,Heap.NewExcOf s.heap h' e "AttributeError"->E (.ref e) {s with heap:=h',toks:=tk}) (m:name.length+100<=sizeLine:=by size_fits):
  wpAny (model prog w) A (getAttrBy (.ref a) (.str name u) false) Q E s:=by
 let(c,z,B,t):=o;simp only at q b p;subst q b p;let(x,g,d,tk,v):=s;have r:∀j,((x,g,d,j,v):Ui).TypeIs (.ref a) "list":=λ_=>(_,n,rfl);have K:=sub_AttributeError;have J:=F.slot_list_getattribute.lookup;have I:=F.slot_list_getattribute.bind (.ref a);have H:=am_list_getattr_none;ext getAttrBy
 repeat (any_goals (first | assumption | show r _ | ((with_reducible show wpAny _ _ (call (Value.builtin "list.__getattribute__") _ _) _ _ _);show Mq F.slot_list_getattribute (r _) am_entry_list_getattribute (F.args_list_getattribute_2 _ _) (meets_getattribute_miss_list a xs k t name _ i f m) (n,y,λh' j e l=>?_)) | wp_step))
 let(D,C,G):=l.there;change wpAny _ _ (getattributeRaised _ _ _ _ _ _ _) _ _ _;ext getattributeRaised
 repeat (any_goals (first | assumption | wp_step))
 show h _ _ _ l.of
def Y52{w:Ul}{E:VSP}{s:Ui}{a:Uj}{o:Obj}{k:Nat}
  (hx:s.heap.get? a=some o) (hc:o.cls= .type "list") (hdat:o.data= .seq xs k) (hd:o.dict=none) (hA:A.handled=none)
  (h:∀h' tk,(∀b o,s.heap.get? b=some o->h'.get? b=some o)->Q none {s with heap:=h',toks:=tk}):wpAny (model prog w) A (getAttr? (.ref a) "keys") Q E s:=by
 let(hp,g,d,tk,os):=s;unfold getAttr? getAttrBy?;have f1:=sub_AttributeError
 repeat (any_goals (first | assumption | ((with_reducible show wpAny _ _ (getAttrBy _ _ false) _ _ _);show Yc2 hx hc hdat hd Gx 'k' hA λh' tk' e hx'=>?_;let(ob,vs,he,hcl,_,_):=hx'.there;show Ac (wpAny_isInstance (T:="AttributeError") (ob,he,hcl) f1 ?_);show Ao (h h' tk' hx'.keeps)) | wp_step))
section
variable{prog:Uk}{w:Ul}{A:Around}{E:VSP}{R:Result->Ui->Prop}
def Tx:entryFor table "dict.update.loop"=some Builtin.«dict.update.loop»:=entryFor_of_tree (by kernel_rfl)
def X5:plainId "dict.update.loop"=true:='k'
def Yc4{K:Type}[DecidableEq K](knd:KeyKind prog w K)(h:Um)(v:Uh)(p:K×Uh):Prop:=∃t u,v= .ref t/\h.IsTuple t #[u,p.2]/\knd.is p.1 u=true
def Bq{K:Type}[DecidableEq K]{knd:KeyKind prog w K}{h:Um}{d I l:Uj}{i:Nat}{kvs:List (K×Uh)}(e:h.DictOf knd d kvs)(g:h.IsListIter I l i):d≠I:=by rintro rfl;let(o,_,_,c,_,f,_):=e;let(j,a,_,b):=g;rw[c] at a;cases a;rw[f] at b;cases b
def Ya0{K:Type}[DecidableEq K]{knd:KeyKind prog w K}{l I d:Uj}{items:Array Uh}{ps:List (K×Uh)}(hh:A.in1.handled=none)(hsz:items.size<sizeLine)(w0:ps.length=items.size):
  ∀(k i:Nat) (s:Ui) (kvs:List (K×Uh)) (t:Tok),items.size - i=k->i<=items.size->kvs.length<=i->
  s.heap.IsListIter I l i->s.heap.IsList l items->s.heap.DictOf knd d kvs->(∀(j:Nat) v p,items[j]?=some v->ps[j]?=some p->Yc4 knd s.heap v p)->
  (∀h' tk,h'.DictOf knd d ((ps.drop i).foldl (λm p=>stored m p.1 p.2) kvs)->(∀b o,b≠I->b≠d->s.heap.get? b=some o->h'.get? b=some o)->R (.ok (.ret .none)) {s with heap:=h',toks:=tk})->
  codeAny (model prog w) A (.builtin "dict.update.loop" ([.ref d,.ref I,.int i t,.none],[])) R s:=by
 intro k;induction k with
 | zero=>intro i s kvs t hk hi U z J D Q q;have W:i=items.size:='o';show Lb Tx ?_;rw[Km X5 _];change wpAny _ A.in1 (pyNext (.ref I) >>=_) _ _ s;show Ac (wpAny_pyNext_list_end hh z J (by rw[W];simp) λh' he=>?_);change wpAny _ _ (Builtin.Dict.addKeywords d [] >>=_) _ _ _;show Ac (Ao (Ao ?_));have y:=Bq D z;show q h' _ ?_ λb o B _ e=>he b o B e;rw[List.drop_of_length_le 'o'];show D.extBut he y
 | succ k ih=>
  intro i s kvs t hk hi U z J D Q q;have S:i<items.size:='o';obtain⟨v,hv⟩:∃v,items[i]?=some v:=(_,Array.getElem?_eq_getElem S);obtain⟨p,C⟩:∃p,ps[i]?=some p:=(_,Aa 'o');show Lb Tx ?_;rw[Km X5 _];change wpAny _ A.in1 (pyNext (.ref I) >>=_) _ _ s;show Ac (wpAny_pyNext_list_item z J hv λh' x0 P=>?_);let(tt,u,rfl,F,V):=Q i v p hv C;have y:=Bq D z;have f:∀b o,b≠I->s.heap.get? b=some o->h'.get? b=some o:=λb o hb e=>(P.2 b hb).trans e;have tI:tt≠I:=by rintro rfl;let(o,g,_,n,x):=F;let(O,a,_,c):=z;rw[g] at a;cases a;rw[x] at c;cases c
  have lI:l≠I:=by rintro rfl;let(o,g,_,n,x):=J;let(O,a,_,c):=z;rw[g] at a;cases a;rw[x] at c;cases c
  have M:∀(b:Uj) (o:Obj) xs n,s.heap.get? b=some o->o.data= .seq xs n->b≠d/\b≠I:=by
   intro b o xs n g x;constructor
   .rintro rfl;let(O,_,_,a,_,c,_):=D;rw[g] at a;cases a;rw[x] at c;cases c
   .rintro rfl;let(O,a,_,c):=z;rw[g] at a;cases a;rw[x] at c;cases c
  let(ot,H,y0,nt,X):=id F;change wpAny _ _ (holding [.ref tt] _ >>=_) _ _ _;show Ac (Ka (Ac (Mc ?_)));ext Builtin.Dict.pairItems;show Ac (wpAny_typeOf (T:="tuple") (ot,f _ _ tI H,y0) ?_);rw[ng 'd'];show Ac (wpAny_seqItems (f _ _ tI H) X ?_);show Ao ?_;change wpAny _ _ (holding [u,p.2] (dictSet d u p.2)) _ _ _;have z0:h'.DictOf knd d kvs:=D.extBut (λb o hb e=>f b o hb e) y;show Ka (wpAny_dictSet_pairs V z0 (λh2 Z G=>?_) 'o');show Ao (Lw X5 _,?_);have h:∀b o,b≠I->b≠d->s.heap.get? b=some o->h2.get? b=some o:=λb o B L e=>(G.2 b L).trans (f b o B e);have:=ih (i+1) {s with heap:=h2,toks:=s.toks+1} (stored kvs p.1 p.2) 0 'o' 'o' ?_ ?_ ?_ Z ?_ ?_
  .show this
  .unfold stored;split
   .rw[Ai];lia
   .rw[Ag,Au];lia
  .let(o,g,r):=x0;show(o,(G.2 I (Il y)).trans g,r)
  .let(o,g,x,n,r):=J;show(o,h _ _ (M _ _ _ _ g r).2 (M _ _ _ _ g r).1 g,x,n,r)
  .intro j v p' B L;let(t3,u3,e3,(o,g,x,n,r),g3):=Q j v p' B L;show(t3,u3,e3,(o,h _ _ (M _ _ _ _ g r).2 (M _ _ _ _ g r).1 g,x,n,r),g3)
  .intro L N Y k3;show q L N ?_ λb o B h4 e=>k3 b o B h4 (h b o B h4 e);rw[Hx (by lia:i<ps.length)];rw[Aa 'o'] at C;cases C;show Y
variable{s:Ui}
def Yf3{K:Type}[DecidableEq K]{knd:KeyKind prog w K}{l:Uj}{o:Obj}{n:Nat}{items:Array Uh}{ps:List (K×Uh)}{Q:VSP}(hh:A.handled=none)
  (ho:s.heap.get? l=some o) (hc:o.cls= .type "list") (hdat:o.data= .seq items n) (hdi:o.dict=none) (hsz:items.size<sizeLine) (hps:ps.length=items.size)
  (hp:∀(j:Nat) v p,items[j]?=some v->ps[j]?=some p->Yc4 knd s.heap v p)
  (h:∀h' tk,h'.DictOf knd s⁻¹ (ps.foldl (λm p=>stored m p.1 p.2) [])->(∀b o,s.heap.get? b=some o->h'.get? b=some o)->Q (.ref s⁻¹) {s with heap:=h',toks:=tk}):
  wpAny (model prog w) A (call (.type "dict") [.ref l]) Q E s:=by
 show callType_codes (Q₁:=λobj s₁=>obj= .ref s⁻¹/\s₁={s with heap:=s.heap.push {cls:= .type "dict",data:= .dict #[]}}) F.kt_called_dict (F.kt_typeCall_dict_1 _) F.entry_dict_init (kt_code_dict_new _ (rfl,rfl)) ?_;rintro obj s₁ ⟨rfl,rfl⟩;have hnew:(s.heap.push {cls:= .type "dict",data:= .dict #[]}).DictOf knd s⁻¹ []:=Heap.DictOf.new s.heap;show(hnew.typeIs,F.args_dict_init_2 _ _,?_);unfold Builtin.«dict.__init__»;show Ac ?_;ext Builtin.Dict.selfAndRest;show Ac (wpAny_notOrdered_dict hnew.typeIs ?_);change wpAny _ _ (pure #v[s⁻¹,[Value.ref l]]) _ _ _;show Ao ?_;change wpAny _ _ (Builtin.Dict.updateFrom "dict.__init__" s⁻¹ (.ref l) [] .none) _ _ _;ext Builtin.Dict.updateFrom;have ho':(s.heap.push {cls:= .type "dict",data:= .dict #[]}).get? l=some o:=Ah _ ho;show Ac (wpAny_typeOf (T:="list") (o,ho',hc) ?_);rw[ng 'd'];show Ac (Y52 ho' hc hdat hdi (by first | show hh | rfl) λh1 tk1 k1=>?_);erw[Option.isNone_none,if_true];have hl1:h1.IsList l items:=(o,k1 _ _ ho',hc,n,hdat);have hd1:h1.DictOf knd s⁻¹ []:=by let(q,es,ep,hq,r):=hnew;show(q,es,ep,k1 _ _ hq,r)
 have old:∀b o,s.heap.get? b=some o->h1.get? b=some o:=λb o e=>k1 b o (Ah _ e);show Ac (wpAny_rule ?_);show Ac (wpAny_pyIter_list hl1 ?_);show Ao (Lw X5 _,?_);show Ya0 (A:=A.in1) (knd:=knd) (ps:=ps) hh hsz hps _ 0 _ [] 0 rfl (nk _) (nk _) (_,Dp _ rfl,rfl,rfl) (hl1.push _) (hd1.push _) ?_ ?_
 .intro j v p h2 h3;let(t,u,e,(q,hq,r),g):=hp j v p h2 h3;show(t,u,e,(q,Ah _ (old _ _ hq),r),g)
 .intro h' tk hd' hk;show(rfl,h h' tk hd' λb o e=>hk b o ?_ ?_ (Ah _ (old _ _ e)))
  .show nj (Dd (old _ _ e))
  .show nj (Dd e)
end
end PySem
namespace L3
open PySem PySem.Spec PyProof.Rows L2
section
variable{X:Cx}{pins:PLO}{σ:L2.St}{H:Hp}{s:Ui}
def Gn(K:Ae)(H:Hp):LV->List (Key×V)->Prop
 | [],[]=>True
 | v::r,p::q=>(∃t,v= .ref t/\SqT K H t [kV p.1,p.2])/\Gn K H r q
 | _,_=>False
def Bx(I:'v'):∀(vs:LV) (its:LW) (ps:List (Key×V)),Vals vs its->Gn X.K H vs ps->∃a,KV ps a/\a.length=its.length/\∀(j:Nat) v p,its[j]?=some v->a[j]?=some p->Yc4 (Zl X.prog X.w) s.heap v p
 | [],its,ps,r,h=>by
  cases ps with
  | cons _ _=>show h.elim
  | nil=>
   have:=r.length;cases its with
   | cons _ _=>simp at this
   | nil=>show([],by constructor,rfl,λj v p h=>by simp at h)
 | v::vs,its,ps,r,h=>by
  cases ps with
  | nil=>show h.elim
  | cons p ps=>
   let((t,rfl,x),h):=h;cases r with
   | @cons _ u _ its k r=>
   cases (show u=Value.ref t from k);let(y,l,b,_):=I.tuple x;let(f,e,rfl,i,g):=Ct l;let(a,o,n,m):=Bx I vs its ps r h;show(#v[p.1,e]::a,.cons (rfl,g) o,by rw[Dy,Dy,n],λj v q d c=>?_);cases j with
   | zero=>cases d;cases c;show(t,f,rfl,b,Jg i)
   | succ j=>show m j v q d c
def Yf7:∀{ps:List (Key×V)} {a:List (Key×Uh)} {kvs:List (Key×V)} {vs:List (Key×Uh)},KV ps a->KV kvs vs->KV (ps.foldl (λm p=>putK m p.1 p.2) kvs) (a.foldl (λm p=>stored m p.1 p.2) vs):=by
 intro ps a kvs vs h;induction h generalizing kvs vs with
 | nil=>intro h;show h
 | cons e r ih=>intro h;rw[Mp,Mp];show ih ?_;rw[e.1];show h.put _ e.2
def Z24:∀(ps:List (Key×V)) (kvs:List (Key×V)),(ps.foldl (λm p=>putK m p.1 p.2) kvs).length<=kvs.length+ps.length
 | [],kvs=>na _
 | p::ps,kvs=>by rw[Mp,Dy];have:=Z24 ps (putK kvs p.1 p.2);have:=W5 kvs p.1 p.2;lia
def Zg0{K:Ae}:∀{vs:LV} {ps:List (Key×V)},Gn K H vs ps->vs.length=ps.length:=by
 intro vs ps h;induction vs generalizing ps with
 | nil=>
  cases ps with
  | nil=>rfl
  | cons _ _=>show Dq h
 | cons v vs ih=>
  cases ps with
  | nil=>show Dq h
  | cons p ps=>rw[Dy,Dy,ih h.2]
def Z69(B:X.calm=true):Xm X (.type "dict") (λxs H Q=>∃(a:Uj) (vs:LV) (ps:List (Key×V)),xs=[V.ref a]/\SqL X.K H a vs/\Gn X.K H vs ps/\vs.length<sizeLine/\
  ∀p,H p=none->Q (.ref p) (upd H p (.dK (ps.foldl (λm p=>putK m p.1 p.2) [])))):=by
 intro pins s σ H xs L Q I r h;let(a,vs,ps,rfl,y,f,M,q):=h;let(u,rfl,i):=Vz r;cases i;let(d,e,(o,n,z,E,D,C),_):=I.list y;let(c,x,t,l):=Bx I vs d ps e f;have N:=e.length;have A:=Zg0 f;show Yf3 (knd:=Zl X.prog X.w) (ps:=c) (I.ok.hd B) z E C D (by rw[Aq];lia) (by rw[Aq];show t) (λj v p G F=>l j v p ↥G F) λO g J b=>?_;have k:=Z24 ps [];show(.ref _,_,I.laid (a:=s⁻¹) (o:= .dK (ps.foldl (λm p=>putK m p.1 p.2) [])) (t':=g) b (na _) (Z21 (by rw[Ku] at k;lia) (beq_eq_false_iff_ne.mpr (Il (nj I.big))) (Yf7 x .nil) J),rfl,q _ (I.hok.fresh (na _)))
end
def Itd(a:Uj)(o:Obj):It:=(λi H=>∃b p,H a=some (.frz o (.dK b))/\b[i]?=some p,λi H x c=>c=H/\∀b,H a=some (.frz o (.dK b))->∃p,b[i]?=some p/\x=kV p.1,λi H=>∃b,H a=some (.frz o (.dK b))/\b.length<=i)
def Zn1{w:Ul}{H:Hp}{a:Uj}{o:Obj}(x:Yb P w H h a (.frz o (.dK kvs)))(c:o.data= .dict es ep):
  ∃vs,KV kvs vs/\h.DictAt (Zl P w) a vs ep/\vs.length=es.size:=by
 let(e,_,_,vs,b,n,l,m,g,k,f,j,d,i):=x;rw[e] at g;cases g;rw[c] at f;cases f;show(vs,b,(o,es,e,k,c,j,d,i),?_);have:=d.length;simpa using this.symm
def Yt4{w:Ul}{k:Key}(h:(Zl P w).is k u=true):L2.RelV (kV k) u:=by
 rcases Zs h with⟨i,t,rfl,rfl⟩|⟨x,t,rfl,rfl⟩
 .exact(t,rfl)
 .exact(t,rfl)
def Yv4(r:KV kvs vs):∀{i:Nat} {p:Key×V},kvs[i]?=some p->∃u,vs[i]?=some #v[p.1,u]/\L2.RelV p.2 u:=by
 ext r KV;induction r with
 | nil=>intro i p e;simp at e
 | @cons p q c b h t a=>
  intro i p e;cases i with
  | zero=>cases e;show(q.2,by rw[h.1];rfl,h.2)
  | succ i=>show a ↥e
def Zh3{w:Ul}{K:Ae}(a it:Uj){o:Obj}(U:o.data= .dict es ep):Turn P w K Z (Itd a o) [it] it (λi h=>h.IsKeyIter it a i es.size ep) where
 mem:=by simp
 obj:=λi h f b m=>by
  have e:b=it:=by simpa using m
  subst e;let(o,e,c,d):=f;show(o,e,λv z=>by rw[d] at z;cases z)
 keep:=λi h x f k=>f.at λo e=>k it 's' o e
 item:=by intro X G D J V i g s S H E I u f F;subst G D J;let(y,p,r,C):=F;let(Y,l,R,t):=Zn1 (I.hok a _ r) U;let(q,B,e2):=Yv4 l C;let(Q,O,f2,N,M,L):=u it 's';rw[<-t] at f;show wpAny_pyNext_dict_item f R B λA x n j sb=>?_;have I1:Inv X g S H {s with heap:=x}:=I.turned (t':=s.toks) (λb o m e=>(sb.2 b m).trans e) Q O N M L;let(ob,e,c,d):=id j;rw[t] at j;show(A,rfl,Zz7 (s:={s with heap:=x}) e c d 'd' (kV p.1,H,I1,Yt4 n,(rfl,λys T=>by rw[r] at T;cases T;show(p,C,rfl)),j,λb m=>(u b m).1))
 done:=by intro X G D J V i g s S H E I u f F;subst G D J;let(y,r,C):=F;let(Y,l,R,t):=Zn1 (I.hok a _ r) U;let(Q,O,f2,N,M,L):=u it 's';have z0:=l.length;rw[<-t] at f;show wpAny_pyNext_dict_end (I.ok.hd V) f R (by simp;lia) λx eb=>(rfl,I.turned (t':=s.toks) (λb o m e=>eb b o m e) Q O N M L)
 self:=λ_ _ _ _ _ f h=>wpAny_pyIter_keyiter f h
section
variable{X:Cx}{pins:PLO}{σ:L2.St}{H:Hp}{s:Ui}{a:Uj}
def Zv5(I:'v')(e:H a=some (.dK kvs)):
  ∃o es ep,o.data= .dict es ep/\s.heap.get? a=some o/\Inv X pins σ (upd H a (.frz o (.dK kvs))) s/\(∀o u,X.H₀ a≠some (.frz o u)):=by
 let(z,i,g,c,f):=Z99 I.hok e;let(o,es,ep,d,l,j,k):=id f;show(o,es,ep,j,d,?_,λh u q=>?_)
 .show I.write (x:=a) (e:=a) (o:= .frz o (.dK kvs)) (h':=s.heap) (t':=s.toks) (by rw[e];show Ld) (.inl rfl) (λb q _ r=>r) (o,d) (d,z,i,g,c,f)
 .have:=I.base.frzs a h u q;rw[e] at this;cases this
def Z25{o:Obj}(I:'v')(e:H a=some (.frz o (.dK kvs)))(j:∀o u,X.H₀ a≠some (.frz o u)):Inv X pins σ (upd H a (.dK kvs)) s where
 ok:=I.ok
 os:=I.os
 bare:=I.bare
 base:=by
  have k:∀b,H b=none->b≠a:=λb n z=>by subst z;rw[e] at n;cases n
  show(I.base.keep,I.base.slot,λb q h n l=>?_,I.base.there,λb f h=>?_,λb q u h=>?_,λb i h=>?_)
  .have:=I.base.free b q h n l;rw[Z6 (k b this)];show this
  .have:=I.base.tups b f h;rw[Z6 (λz=>by subst z;rw[e] at this;cases this)];show this
  .have:=I.base.frzs b q u h;rw[Z6 (λz=>by subst z;show j q u h)];show this
  .let(m,this):=I.base.tbls b i h;show(m,by rw[Z6 (λz=>by subst z;rw[e] at this;cases this)];show this)
 loc:=I.loc
 cell:=I.cell
 free:=by rw[Z6 (λz=>by have:=I.free;rw[z,e] at this;cases this)];show I.free
 freeC:=λx c h=>by have:=I.freeC x c h;rw[Z6 (λz=>by subst z;rw[e] at this;cases this)];show this
 pin:=λp t=>by let(y,d,w):=I.pin p t;show(y,by rw[Z6 (λz=>by rw[z,e] at d;cases d)];show d,w)
 hok:=by
  intro b u h;by_cases g:b=a
  .subst g;rw[Zc] at h;cases h;let(_,q):=I.hok b _ e;show q
  .rw[Z6 g] at h;show(I.hok b u h).stay (λc v _ r=>r) (λc r=>?_) λc f r=>?_
   .rw[Z6 (λz=>by subst z;rw[e] at r;cases r)];show r
   .rw[Z6 (λz=>by subst z;rw[e] at r;cases r)];show r
 len:=I.len
end
end L3
namespace SW
open PySem
def Rise(xs:Array Nat):Prop:=∀i k,i<k->k<xs.size->xs.getD i 0<xs.getD k 0
def Rise.le{xs:Array Nat}(h:Rise xs){i k:Nat}(a:i<=k)(b:k<xs.size):xs.getD i 0<=xs.getD k 0:=by
 rcases Nat.lt_or_eq_of_le a with a|rfl
 .show mf (h i k a b)
 .show na _
structure At(xs:Array Nat)(j i:Nat):Prop where
 le:i<=xs.size
 lo:∀k,k<i->xs.getD k 0<j
 hi:∀k,i<=k->k<xs.size->j<=xs.getD k 0
def At.uniq{j i c:Nat}(a:At xs j i)(b:At xs j c):i=c:=by
 rcases Nat.lt_trichotomy i c with h|h|h
 .have e:=b.lo i h;have d:=a.hi i (na _) (by have:=b.le;lia);lia
 .show h
 .have e:=a.lo c h;have d:=b.hi c (na _) (by have:=a.le;lia);lia
def TOk(t:SetTable)(led:Bool):Prop:=True
def Zr7(j:Nat):SetTable.has #[] j=false:=rfl
def Z91{t:SetTable}(a:t.dummies=#[])(j:Nat):t.slot j≠ .dummy:=by
 ext SetTable.slot;dsimp only;rw[a,Zr7];split
 .intro h;cases h
 .intro h;rw[nc 'd'] at h;cases h
def Zj2(t:SetTable)(p:SetTable.Probe):(t.advance p).dummy=p.dummy:=by
 ext SetTable.advance;split
 .rfl
 .rfl
def Z51{t:SetTable}(g:t.dummies=#[])(f:Nat->Int)(h:Int):∀(a:Nat) (p:SetTable.Probe) (j:Nat) (d:Option Nat),p.dummy=none->SetTable.probe.go t f h a p=some (.empty j d)->d=none/\t.slot j= .empty
 | 0,p,j,d,_,e=>by cases e
 | a+1,p,j,d,c,e=>by
  ext e SetTable.probe.go;cases b:t.slot p.j with
  | empty=>rw[b] at e;cases e;show(c,b)
  | dummy=>show absurd b (Z91 g _)
  | live i=>
   rw[b] at e;dsimp only at e;split at e
   .cases e
   .show Z51 g f h a _ j d (by rw[Zj2,c]) e
set_option tactic.hygienic true in
def Yg2{t:SetTable}(c:t.dummies=#[]){k:Nat}{b:Bool}(e:t.freeSlot h=some #v[k,b]):t.slot k= .empty/\b=false:=by
 ext e SetTable.freeSlot;split at e
 .rename_i j f a;cases e;ext a SetTable.probe;let(rfl,d):=Z51 c _ _ _ _ _ _ rfl a;show(d,rfl)
 .cases e
def Y29{t:SetTable}{led:Bool}(h:TOk t led)(es:Array (Int×Uh))(k:Int)(x:Uh):TOk (layNew t es k x).2.1 led:=trivial
def Y05{t:SetTable}{led:Bool}(h:TOk t led)(es:Array (Int×Uh))(n:Nat):TOk (relayAll t es n).2.1 led:=trivial
end SW
namespace SW
open PySem PyProof.Rows
section
variable{M:Model}{prog:Uk}{w:Ul}{A:Around}{E:VSP}{s:Ui}
inductive KeysOf {K:Type} [DecidableEq K] (knd:KeyKind prog w K):List K->List (Int×Uh)->Prop
 | nil:KeysOf knd [] []
 | cons {k:K} {e:Int×Uh} {ks:List K} {l:List (Int×Uh)} (h:knd.is k e.2=true) (r:KeysOf knd ks l):KeysOf knd (k::ks) (e::l)
variable{K:Type}[DecidableEq K]{knd:KeyKind prog w K}
def KeysOf.len(h:KeysOf knd ks l):ks.length=l.length:=by
 induction h with
 | nil=>rfl
 | cons _ _ a=>rw[Dy,Dy,a]
set_option tactic.hygienic true in
def KeysOf.mem(h:KeysOf knd ks l){k:K}:k∈ks↔∃e∈l,knd.is k e.2=true:=by
 induction h with
 | nil=>simp
 | cons h r b=>
  rename_i d e ks l;rw[Ak,b];constructor
  .rintro(rfl|⟨e,a,q⟩)
   .exact(_,Aw,h)
   .exact(e,An _ a,q)
  .rintro⟨c,a,q⟩;rcases Ak.mp a with rfl|a
   .show .inl (knd.inj _ _ _ q h)
   .show .inr (c,a,q)
def KeysOf.app{ks a:List K}{l b:List (Int×Uh)}(h:KeysOf knd ks l)(g:KeysOf knd a b):KeysOf knd (ks++a) (l++b):=by
 induction h with
 | nil=>show g
 | cons h _ c=>show .cons h c
def KeysOf.perm(p:f.Perm l):∀{ks:List K},KeysOf knd ks l->∃c,c.Perm ks/\KeysOf knd c f:=by
 induction p with
 | nil=>intro ks h;show(ks,List.Perm.refl _,h)
 | cons x p i=>
  intro ks h;cases h with
  | cons h r=>let(c,a,b):=i r;show(_,a.cons _,.cons h b)
 | swap x y l=>
  intro ks h;cases h with
  | cons h r=>
   cases r with
   | cons j r=>show(_,List.Perm.swap _ _ _,.cons j (.cons h r))
 | trans p q e d=>intro ks h;let(t,o,m):=d h;let(g,n,k):=e m;show(g,n.trans o,k)
structure SetO(knd:KeyKind prog w K)(led:Bool)(o:Obj)(ks:List K):Prop where
 ex:o.ExactSet
 dat:∃es ep t,o.data= .set es ep t/\ElemsOf knd es.toList/\KeysOf knd ks es.toList/\t.fits es.size=true/\TOk t led
 nd:ks.Nodup
 sm:ks.length<scanBound
def Zw6{t:SetTable}{led:Bool}(h:TOk t led):TOk {t with plain:=false} led:=trivial
def Y82{a:Uj}{o:Obj}{k:K}{x:Uh}(hk:knd.is k x=true)(hx:x.scannable=true)(U:s.heap.get? a=some o)(I:SetO knd led o ks)(hr:ks.length+1<scanBound)
  (h:∀b h' y f,Lh a s.heap h'->h'.get? a=some y->SetO knd led y f->(k∈ks->f=ks)->(k∉ks->f.Perm (ks++[k]))->Q b {s with heap:=h'}):
  wpAny (model prog w) A (setAddHashed a x (knd.hash k)) Q E s:=by
 let(G,ep,t,W,he,m,hf,ht):=I.dat;have u0:=m.len;have p0:G.toList.length=G.size:=Ir;have q0:=I.sm;unfold setAddHashed setAddHashedIn;show Ka (Ac (wpAny_setState_of U W hf ?_));dsimp only;rw[byScan_of hx 'o' he,ng rfl];ext setAddByScan;show Ac (Ac (wpAny_rule (Ac (wpAny_setScan_of hk U W hf he ?_))));cases V:G.toList.findIdx? (λe=>knd.is k e.2) with
 | some j=>let(hj,w0,_):=List.findIdx?_eq_some_iff_getElem.mp V;have v0:k∈ks:=m.mem.mpr (_,He hj,w0);dsimp only;show Ao (Ao ?_);have:=h false s.heap o ks (Lh.refl a s.heap) U I (λ_=>rfl) (λz=>absurd v0 z);show this
 | none=>
  have n:k∉ks:=λz=>by let(e,h1,h2):=m.mem.mp z;have:=List.findIdx?_eq_none_iff.mp V e h1;rw[h2] at this;cases this
  dsimp only;have gv:∀(b:Bool) {s1:Ui} {R:Unit->Ui->Prop},R () s1->wpAny (model prog w) A (match b with | true=>rule "set.scan.the-table-gave-way" | false=>pure ()) R E s1:=by
   intro b s1 R q;cases b
   .show Ao q
   .show wpAny_rule q
  have P:=layNew_perm t G (knd.hash k) x;have X:=layNew_fits t G (knd.hash k) x;have J:=Y29 ht G (knd.hash k) x;generalize layNew t G (knd.hash k) x=L at P X J |-;let(c,t2,wd,t0):=L;dsimp only at P X J |-;rw[Array.toList_push] at P;have Y:ElemsOf knd c.toList:=(he.push hk hx).perm P;let(T,l,C):=KeysOf.perm P (m.app (.cons (e:=#v[knd.hash k,x]) hk .nil));have S:T.Nodup:=l.nodup_iff.mpr (Dt.mpr (I.nd,by simp,λa ha b hb=>by simp at hb;subst hb;rintro rfl;show n ha));have r0:T.length=ks.length+1:=by rw[l.length_eq,Ag];rfl
  have s0:c.size=T.length:=by rw[<-Ir,C.len]
  show Ac (gv _ ?_);have x0:∀(d:SetTable),d.fits c.size=true->TOk d led->wpAny (model prog w) A (do
    storeSet a c d
    if (!wd&&d.tooFull)=true then do
      (match (relayAll d c (Kx c.size)).2.2 with | true=>rule "set.scan.the-table-gave-way" | false=>pure ())
      storeSet a (relayAll d c (Kx c.size)).1 (relayAll d c (Kx c.size)).2.1
      pure (some true)
     else pure (some true)) (λr Z=>∃h' y f,r=some true/\Z={s with heap:=h'}/\Lh a s.heap h'/\h'.get? a=some y/\SetO knd led y f/\f.Perm (ks++[k])) E s:=by
   intro d f3 i;have u:c.size<=sizeLine:=fits_of_scanBound 'o';show Ac (wpAny_storeSet_of U W ?_ u);have g1:(s.heap.update a (Obj.putSet c d)).get? a=some {o with data:= .set c (ep+1) d}:=by have:=Iu (Obj.putSet c d) U (by rw[putSet_of c d W];rfl);rwa[putSet_of c d W] at this
   have o1:SetO knd led {o with data:= .set c (ep+1) d} T:=(I.ex,(c,_,d,rfl,Y,C,f3,i),S,'o');have N:=Mj s.heap a (Obj.putSet c d);split
   .have O:=relayAll_perm d c (Kx c.size);have f2:=relayAll_fits d c (Kx c.size);have v:=Y05 i c (Kx c.size);generalize relayAll d c (Kx c.size)=L at O f2 v |-;let(F,t4,o0):=L;dsimp only at O f2 v |-;let(k2,B,y0):=KeysOf.perm O C;have z0:F.size=c.size:=by rw[<-Ir,O.length_eq,Ir]
    show Ac (gv _ (Ac (wpAny_storeSet_of g1 rfl ?_ (by rw[z0];show u))));show Ao (_,_,k2,rfl,rfl,N.trans (Mj _ a _),Iu (Obj.putSet F t4) g1 rfl,?_,B.trans l);show(I.ex,(F,_,t4,rfl,Y.perm O,y0,f2,v),B.nodup_iff.mpr S,by rw[B.length_eq];lia)
   .show Ao (_,_,T,rfl,rfl,N,g1,o1,l)
  have D:∀(d:SetTable),d.fits c.size=true->TOk d led->wpAny (model prog w) A (do
    storeSet a c d
    if (!wd&&d.tooFull)=true then do
      (match (relayAll d c (Kx c.size)).2.2 with | true=>rule "set.scan.the-table-gave-way" | false=>pure ())
      storeSet a (relayAll d c (Kx c.size)).1 (relayAll d c (Kx c.size)).2.1
      pure (some true)
     else pure (some true)) (λr Z=>wpAny (model prog w) A (match r with | some H=>pure H | none=>setAddHashedIn a x (knd.hash k) 99999) Q E Z) E s:=by
   intro d f3 i;show Hl (x0 d f3 i) ?_ λ_ _ z=>z;rintro r Z ⟨h',y,f,rfl,rfl,sb,g,so,p⟩;show Ao (h true h' y f sb g so (λz=>absurd z n) λ_=>p)
  split
  .refine Ac ?_;rw[hashByValue_scannable 8 hx];show Ao ?_;split
   .show D _ X J
   .show D _ (SetTable.fits_plain_off X) (Zw6 J)
  .refine Ac (Ao ?_);rw[ng rfl];show D _ X J
end
def Cr(w:Ul):Bool:= !w.params.followText "set-order"
section
variable{prog:Uk}{w:Ul}{A:Around}{E:VSP}{s:Ui}
section
variable{K:Type}[DecidableEq K]{knd:KeyKind prog w K}{R:Result->Ui->Prop}{I:Uj}{fp wr:List Uj}{G:Array GenState->Array GenState->Prop}{n:Nat}{P:Nat->Uh->Prop}{St:Nat->Ui->Prop}
def Y06(W:WalksS prog w A.in1 I fp wr G n P St)(S:Uj)(x:S∉fp)(key:Nat->K)(t:∀i v,P i v->knd.is (key i) v=true/\v.scannable=true)(hb:n+1<scanBound):
  ∀(m i:Nat) (s:Ui) (o:Obj) (ks:List K),n - i=m->i<=n->St i s->s.heap.get? S=some o->SetO knd led o ks->ks.length<=i->(∀k,k∈ks↔∃j,j<i/\key j=k)->
  (∀s' B a,Moved (S::wr) G s s'->s'.heap.get? S=some B->SetO knd led B a->a.length<=n->(∀k,k∈a↔∃j,j<n/\key j=k)->R (.ok (.ret .none)) s')->
  codeAny (model prog w) A (.builtin "set.update.loop" ([.ref S,.ref I],[])) R s:=by
 have u:S∉wr:=λz=>x (W.sub _ z);have p:∀b∈wr,b∈S::wr:=λb z=>An _ z;intro m;induction m with
 | zero=>intro i s o ks hm hi D N U Y d q;obtain rfl:i=n:='o';show Lb F.entry_set_update_loop ?_;rw[Km F.plain_set_update_loop _];change wpAny _ A.in1 (pyNext (.ref I) >>=_) _ _ s;show Ac (W.done s _ _ D λs' l=>Ao ?_);show q s' o ks (l.mono p) (l.heap S _ u N) U Y d
 | succ m ih=>
  intro i s o ks hm hi D N U Y d q;have r:i<n:='o';show Lb F.entry_set_update_loop ?_;rw[Km F.plain_set_update_loop _];change wpAny _ A.in1 (pyNext (.ref I) >>=_) _ _ s;show Ac (W.item i s _ _ r D λv s' hP C l=>?_);let(Z,hx):=t i v hP;change wpAny _ A.in1 (holding [v] (setAdd S v) >>=_) _ _ s';show Ac (Ka ?_);ext setAdd;show Ka (Ac (knd.pyHash Z ?_));show Y82 (s:={s' with toks:=s'.toks+1}) Z hx (l.heap S _ u N) U 'o' λb h' B a V M T c1 c2=>?_;have f:∀k,k∈a↔∃j,j<i+1/\key j=k:=by
   intro k;have e:(∃j,j<i+1/\key j=k)↔(∃j,j<i/\key j=k)\/key i=k:=by
    constructor
    .rintro⟨j,h1,h⟩;by_cases h3:j=i
     .subst h3;show .inr h
     .show .inl (j,'o',h)
    .rintro(⟨j,h1,h⟩|h)
     .exact(j,'o',h)
     .exact(i,'o',h)
   rw[e,<-d k];by_cases c:key i∈ks
   .rw[c1 c];constructor
    .show .inl
    .rintro(z|rfl)
     .show z
     .show c
   .rw[(c2 c).mem_iff,Ap,Af];constructor
    .rintro(z|rfl)
     .show .inl z
     .show .inr rfl
    .rintro(z|rfl)
     .show .inl z
     .show .inr rfl
  have O:a.length<=i+1:=by
   by_cases c:key i∈ks
   .rw[c1 c];lia
   .rw[(c2 c).length_eq,Ag,Au];lia
  show Ao (Lw F.plain_set_update_loop _,ih (i+1) _ B a 'o' r (W.frame _ s' _ _ C (mn _) λy g X e=>?_) M T O f λs2 X J H L Q l2 m2=>?_)
  .rw[V.2 y (λz:y=S=>x (by rw[<-z];show g))];show e
  .refine q s2 X J (Moved.trans W.gtrans ((l.mono p).then_heap (mn _) λy o3 g e=>?_) H) L Q l2 m2;rw[V.2 y (λz:y=S=>g (by rw[z];show Aw))];show e
end
def newO(w:Ul):Obj:={cls:= .type "set",dict:=none,data:= .set #[] 0 (.fresh 0 0 (Cr w))}
def Yf0{K:Type}[DecidableEq K]{knd:KeyKind prog w K}:SetO knd (Cr w) (newO w) []:=
 ((rfl,rfl,rfl),(#[],0,_,rfl,λe a=>by simp at a,.nil,rfl,trivial),List.nodup_nil,by change 0<scanBound;decide)
def Zs7(a:Uh)(h:Q (.ref s⁻¹) {s with heap:=s.heap.push (newO w)}):
  codeAny (model prog w) A (.call (.builtin "set.__new__") ([.type "set",a],[])) (wants Q E) s:=by
 show codeAny_of_tree ?_;change wpAny _ A.in1 (checkBuiltinCall "set.__new__" ([.type "set",a],[]) >>=λ_=>again (.builtin "set.__new__" ([.type "set",a],[]))) _ _ s;show Ac (wpAny_of_eq (F.newCall_set_1 a) (Ao (Lw F.plain_set_new _,Lb F.entry_set_new ?_)));rw[Km F.plain_set_new _];unfold Builtin.«set.__new__» Builtin.Frozenset.newClass;have b:=sub_set_self;let(f,g,d,c,e):=s;dsimp only
 wp_walk
 show wpAny_askSetting (Ao ?_);erw[newObj];show Ac (wpAny_alloc (Ao (Ao h)))
end
section
variable{prog:Uk}{w:Ul}{A:Around}{E:VSP}{s:Ui}{K:Type}[DecidableEq K]{knd:KeyKind prog w K}
set_option maxHeartbeats 3200000 in
def Zy4{l:Uj}{its:Array Uh}{key:Nat->K}{Q:VSP}(hh:A.handled=none)(hl:s.heap.IsList l its)(hkey:∀i v,its[i]?=some v->knd.is (key i) v=true/\v.scannable=true)(hb:its.size+1<scanBound)
  (h:∀h' tk o ks,h'.get? s⁻¹=some o->SetO knd (Cr w) o ks->ks.length<=its.size->(∀k,k∈ks↔∃j,j<its.size/\key j=k)->(∀b o,b<s⁻¹->s.heap.get? b=some o->h'.get? b=some o)->Q (.ref s⁻¹) {s with heap:=h',toks:=tk}):
  wpAny (model prog w) A (call (.type "set") [.ref l]) Q E s:=by
 let(c0,tl,mro0):=F.called_set.mro;have made0:=F.called_set.made;have sub0:=F.called_set.sub;have nt0:=F.called_set.notType;have cc0:=F.called_set.canCreate;have ct0:=F.typeCall_set_1 (.ref l);show Ly (codeAny_of_tree ?_);change wpAny _ _ (callAny (.type "set") _) _ _ _;show Ao (Code.quiet_builtin _ 'k',Lb F.entry_type_call ?_);rw[Around.under_plain (weight_type_call_type "set" [.ref l] []) rfl]
 repeat (any_goals (first | assumption | wp_step))
 have hnew:=Zs7 (prog:=prog) (w:=w) (A:=A.in1) (s:=s) (E:=E) (.ref l) (Q:=λv s1=>v= .ref s⁻¹/\s1={s with heap:=s.heap.push (newO w)}) (rfl,rfl);show Kw hnew λr s1 hr=>?_;cases r with
 | error e=>show hr
 | ok fl=>
 cases fl with
 | ret v=>
  let(rfl,rfl):=hr;have g0:(s.heap.push (newO w)).get? s⁻¹=some (newO w):=Dp _ rfl;have ty0:Shared.TypeIs {s with heap:=s.heap.push (newO w)} (.ref s⁻¹) "set":=(_,g0,rfl);have li0:=F.called_set.init.lookup;have bi0:=F.called_set.init.bind (.ref s⁻¹)
  repeat (any_goals (first | assumption | wp_step))
  have want:∀s2:Ui,(∃h' tk o ks,s2={s with heap:=h',toks:=tk}/\h'.get? s⁻¹=some o/\SetO knd (Cr w) o ks/\ks.length<=its.size/\(∀k,k∈ks↔∃j,j<its.size/\key j=k)/\(∀b o,b<s⁻¹->s.heap.get? b=some o->h'.get? b=some o))->Q (.ref s⁻¹) s2:=by rintro s2 ⟨h',tk,o,ks,rfl,a1,a2,a0,a3,a4⟩;show h h' tk o ks a1 a2 a0 a3 a4
  clear h;show Kw (codeAny_call_builtin (R:=wants (λr s2=>r= .none/\∃h' tk o ks,s2={s with heap:=h',toks:=tk}/\h'.get? s⁻¹=some o/\SetO knd (Cr w) o ks/\ks.length<=its.size/\(∀k,k∈ks↔∃j,j<its.size/\key j=k)/\(∀b o,b<s⁻¹->s.heap.get? b=some o->h'.get? b=some o)) E) F.called_set.init.plain F.entry_set_init (check_set_init_1 ty0 ?_)) λr2 s2 hr2=>?_
  .let((cl,di,da,sl),ol,hcl,nl,hdl):=hl;simp only at hcl hdl;subst hcl hdl;have ol1:(s.heap.push (newO w)).get? l=some {cls:= .type "list",dict:=di,data:= .seq its nl,slots:=sl}:=Ah _ ol;have s1:=F.sub_list_set;have s2:=F.sub_list_frozenset;have s3:(Value.type "list"==Value.type "dict")=false:='d';have il1:(s.heap.push (newO w)).IsList l its:=(_,ol1,rfl,nl,rfl);unfold Builtin.«set.__init__» noKeywords Builtin.Frozenset.updateFrom;generalize hPI:pyIter=PI
   wp_walk
   subst hPI;show wpAny_pyIter_list il1 (Ac (wpAny_runValue ?_));have lS:l<s⁻¹:=Dd ol;have nI:l≠(s.heap.push (newO w)).objs.size:=by rw[Ln];show nj (Nat.lt_succ_of_lt lS)
   have nS:s⁻¹∉[(s.heap.push (newO w)).objs.size,l]:=by rw[Ln,Ak,Af];show λz=>z.elim (nj (Nat.lt_succ_self _)) (nq lS)
   show Y06 (knd:=knd) (led:=Cr w) ((Walks.list (by simp[hh]) _ l nI its).toS) s⁻¹ nS key hkey hb _ 0 _ (newO w) [] rfl (nk _) ((_,Dp _ rfl,rfl,rfl),il1.push _) (Ah _ g0) Yf0 (nk _) (λk=>by simp) ?_;intro s' o' ks' mv ho' hS' hl' hm';let(h',g',d',tk',os'):=s';cases mv.gens;cases mv.drawn;cases mv.os;show Ao ?_;show Ao (rfl,h',tk',o',ks',rfl,ho',hS',hl',hm',λb o hb e=>?_);show mv.heap b o ?_ (Ah _ (Ah _ e));rw[Ak,Af,Ln];show λz=>z.elim (nj hb) (nj (Nat.lt_succ_of_lt hb))
  .cases r2 with
   | error e=>show hr2
   | ok fl2=>
    cases fl2 with
    | ret r=>
     let(rfl,hw):=hr2
     repeat (any_goals (first | assumption | wp_step))
     show want _ hw
    | _=>show hr2.elim
 | _=>show hr.elim
end
section
variable{prog:Uk}{w:Ul}{A:Around}{E:VSP}{s:Ui}
section
variable{a I:Uj}{o:Obj}{es:Array (Int×Uh)}{ep:Nat}{t:SetTable}
def Yr0(hh:A.handled=none)(h:∀h' e,(∀b u,s.heap.get? b=some u->h'.get? b=some u)->(∃u,h'.get? e=some u/\u.cls= .type "StopIteration")->R (.ref e) {s with heap:=h'}):wpAny (model prog w) A (newExc (.type "StopIteration") [] >>=λe=>(raiseNew e:Sem Fin)) Q R s:=by show Ac ?_;erw[newExc,newTuple];show Ac (Kz ?_ (by size_fits));show Ac (m:=firstArgMember _ _) (wpAny_of_eq (a:=Value.none) (by first | rfl | (erw[firstArgMember];rfl)) ?_);show Kz ?_ (by size_fits);erw[raiseNew];show Ac (wpAny_handled ?_);rw[hh];show Ac (Ao (wpAny_throw ?_));show h _ _ (λb u q=>Ah _ (Ah _ q)) (_,Dp _ rfl,rfl)
end
end
end SW
namespace SW
open PySem PyProof.Rows PySem.W
end SW
namespace SW
open PySem PyProof.Rows
end SW
namespace L3
open PySem PySem.Spec PyProof.Rows L2
section
variable{X:Cx}{pins:PLO}{σ:L2.St}{H:Hp}{s:Ui}
def Th(P:Uk)(w:Ul)(a:Uj)(ks:List Key)(h:Um):Prop:=∃o,h.get? a=some o/\SW.SetO (Zl P w) (SW.Cr w) o ks
def Th.stay{w:Ul}{a:Uj}(x:Th P w a ks h)(k:∀o,h.get? a=some o->h'.get? a=some o):Th P w a ks h':=by let(o,b,r):=x;show(o,k _ b,r)
def Zb6(L:X.calm=true):Xm X (.type "set") (λxs H Q=>∃(a:Uj) (ks:List Key),xs=[V.ref a]/\SqL X.K H a (ks.map kV)/\ks.length+1<scanBound/\∀p c,H p=none->c.Nodup->c.length<=ks.length->(∀k,k∈c↔k∈ks)->Q (.ref p) (upd H p (.ext (Th X.prog X.w p c)))):=by
 intro pins s σ H xs R Q I r h;let(a,ks,rfl,G,S,q):=h;let(u,rfl,D):=Vz r;cases D;let(g,l,p,_):=I.list G;have n:g.length=ks.length:=by have:=l.length;rw[Ai] at this;show this.symm
 show SW.Zy4 (knd:=Zl X.prog X.w) (key:=λi=>ks.getD i (.inl 0)) (I.ok.hd L) p.isList (λi v e=>?_) (by rw[Aq];lia) λM C o c m A d J k=>?_
 .rw[List.getElem?_toArray] at e;have z:i<ks.length:=by have:=(Ab.mp e).1;lia
  have O:(ks.map kV)[i]?=some (kV ks[i]):=by rw[Ch,Aa z];rfl
  let(u,B,E):=l.get O;rw[e] at B;cases B;have N:ks.getD i (.inl 0)=ks[i]:=by rw[Ad,Aa z];rfl
  have y:G5 ks[i] v=true:=Jg (P:=X.prog) (w:=X.w) E;show(by change G5 (ks.getD i (.inl 0)) v=true;rw[N];show y,?_);rcases Zs y with⟨i,t,_,rfl⟩|⟨x,t,_,rfl⟩<;>rfl
 .have F:∀b u,s.heap.get? b=some u->M.get? b=some u:=λb u e=>k b u (Dd e) e;show(.ref _,_,I.laid (a:=s⁻¹) (o:= .ext (Th X.prog X.w s⁻¹ c)) (t':=C) F (na _) ((o,m,A),(o,m),λU T x k=>x.stay k),rfl,q _ c (I.hok.fresh (na _)) A.nd (by rw[Aq,n] at d;show d) λk=>?_);rw[J,Aq,n,List.mem_iff_getElem];constructor
  .rintro⟨j,f,e⟩;show(j,f,by rw[<-e,Ad,Aa f];rfl)
  .rintro⟨j,f,e⟩;show(j,f,by rw[<-e,Ad,Aa f];rfl)
def Wu:∀{vs:LW} {a:List Int},IntsAre vs a->Vals (a.map V.int) vs
 | _,_,.nil=> .nil
 | _,_,.cons n t r=> .cons (t,rfl) (Wu r)
def Yi0(I:'v'){p:Uj}{a:Um->Prop}(h:H p=some (.ext a)):a s.heap:=(I.hok p _ h).1
def Yi5(P:Uk)(w:Ul):LV->Hp->VK->Prop:=λb H Q=>∃(p:Uj) (a:List Key),b=[V.ref p]/\H p=some (.ext (Th P w p a))/\Q (.int a.length) H
def Ge:Xm X (.builtin "len") (Yi5 X.prog X.w):=by
 intro pins s σ H xs us Q I r h;let(p,ks,rfl,hx,q):=h;let(u,rfl,ru):=Vz r;cases ru;let(o,ho,hS):=Yi0 I hx;let(es,ep,t,hd,he,hks,hf,ht):=hS.dat;have hl:es.size=ks.length:=by have:=hks.len;rw[Ir] at this;show this.symm
 have hb:ks.length<scanBound:=hS.sm;have h4:scanBound=4096:=rfl;show call_len_set ho hS.ex hd hf (Int.lt_of_lt_of_le (show(es.size:Int)<4096 by omega) 'd') ?_;rw[hl];show(.int _,H,I.tok _,(_,rfl),q)
def Zc6{prog:Uk}{w:Ul}{A:Around}{E:VSP}{s:Ui}{t b:Uj}{its:Array Uh}{g f:Uh}{lo hi:Option Int}{Q:VSP}(a:IsTup s.heap t its)(j:s.heap.IsSliceOf b g f .none)(pl:IsPart g lo)(k:IsPart f hi)
  (i:HT.sIx its.size 0 lo=0/\HT.sIx its.size its.size hi=its.size) (h:Q (.ref t) s):wpAny (model prog w) A (getItem (.ref t) (.ref b)) Q E s:=by
 let(l,c,d,m):=id j;have e:s.TypeIs (.ref b) "slice":=(l,c,d);ext getItem
 try with_reducible show Ka ?_
 first | show Ac (Ao ?_) | skip
 show Ac (wpAny_sequenceKey a.typeIs 'd' ?_);show Ac (wpAny_callSpecial?_slot (name:=Str.ofString "__getitem__") a.typeIs Ix (wpAny_call_entry Ix a.typeIs entry_tuple_getitem ?_ (args_tuple_getitem _ _)));change wpAny _ _ (Builtin.Tuple.tupleItemsOf (.ref t) >>=_) _ _ s;show Ac (tupleItemsOf_ a (Ac (wpAny_typeOf e ?_)));rw[ng 'd'];show Ac (HT.We j pl k ?_);change wpAny _ _ (if (((HT.sIx its.size 0 lo:Nat):Int)==0&&(1:Int)==1&&(HT.sIx its.size its.size hi - HT.sIx its.size 0 lo)==its.size)=true then _ else _) _ _ s;rw[ng (by rw[i.1,i.2];simp)];show Ac ?_;ext Builtin.Tuple.tupleIsExact;show Ac (wpAny_typeOf a.typeIs (Ao ?_));rw[ng 'd'];show Ac (wpAny_rule (Ao (_,rfl,Ao h)))
def Y66:SlR X (λx lo hi H Q=>∃a xs,x= .ref a/\SqT X.K H a xs/\(HT.sIx xs.length 0 lo=0/\HT.sIx xs.length xs.length hi=xs.length)/\Q x H):=by
 intro pins s σ H x v m l lo hi n Q I e k g f h;let(a,xs,rfl,i,j,q):=h;cases e;let(c,r,d,o):=I.tuple i;have b:c.toArray.size=xs.length:=by rw[Aq];show r.length.symm
 show("tuple",_,Ix.lookup,d.typeIs,Zc6 d k g f (by rw[b];show j) (.ref a,H,I,rfl,q))
end
end L3
namespace L2
open PySem PySem.Spec PyProof.Rows
variable{X:Cx}
end L2
namespace SW
open PySem PySem.Spec PyProof.Rows
end SW
namespace L3
open PySem PySem.Spec PyProof.Rows L2
section
variable{X:Cx}{pins:PLO}{σ:L2.St}{H:Hp}{s:Ui}
def Zw9(I:'v')(o:X.A.units+64<cLine)(c:Bool){p b:Uj}(m:SqL X.K H p vs)(n:SqL X.K H b [])(q:Q (.bl (if c then !vs.isEmpty else vs.isEmpty)) H):
  ⇑X (compareOp (if c then .NotEq else .Eq) (.ref p) (.ref b)) (EP X pins σ Q) X.xe s:=by
 let(g,r,d,_):=I.list m;let(f,k,a,_):=I.list n;have l:f=[]:=by cases k;rfl
 subst l;cases vs with
 | nil=>
  cases r;cases c with
  | true=>show SeqAt.RcNeAt.lists (e:=λ_=>true) d.isList a.isList rfl 'o' (λj h=>absurd h (Nat.not_lt_zero _)) _ _ _ _ (.bl _,H,I,rfl,q)
  | false=>show SeqAt.RcAt.lists (e:=λ_=>true) d.isList a.isList rfl 'o' (λj h=>absurd h (Nat.not_lt_zero _)) _ _ _ _ (.bl _,H,I,rfl,q)
 | cons v vs=>
  have i:(g.toArray.size !=([]:LW).toArray.size)=true:=by cases r;rfl
  cases c with
  | true=>show SeqAt.RcNeAt.lists_lengths d.isList a.isList i 'o' _ _ _ _ (.bl _,H,I,rfl,q)
  | false=>show SeqAt.RcAt.lists_lengths d.isList a.isList i 'o' _ _ _ _ (.bl _,H,I,rfl,q)
def Y91(I:'v')(L:X.A.units+64<cLine)(c:Bool){a b:Uj}(F:SqT X.K H a vs)(E:SqT X.K H b ys)(v:vs.all X4=true)(t:ys.all X4=true)(q:Q (.bl (if c then !eqVs vs ys else eqVs vs ys)) H):
  ⇑X (compareOp (if c then .NotEq else .Eq) (.ref a) (.ref b)) (EP X pins σ Q) X.xe s:=by
 let(f,m,l,_):=I.tuple F;let(d,g,k,_):=I.tuple E;have D:=m.length;have C:=g.length;have o:∀j (r:j<f.toArray.size) (p:j<d.toArray.size),Hs X.A.in1 s f.toArray[j] d.toArray[j] (eqV (vs.getD j .non) (ys.getD j .non)):=λj r p=>by
  have i:j<vs.length:=by rw[Aq] at r;lia
  have h:j<ys.length:=by rw[Aq] at p;lia
  let(u,J,B):=m.get (Aa i);let(w,G,z):=g.get (Aa h);have y:f.toArray[j]=u:=by have:=(Ab.mp J).2;simpa using this
  have x:d.toArray[j]=w:=by have:=(Ab.mp G).2;simpa using this
  rw[y,x,Ad,Ad,Aa i,Aa h];rw[Ia] at v t;show Z06 B z (v _ (He i)) (t _ (He h))
 have n:((Aj (min f.toArray.size d.toArray.size)).all (λj=>eqV (vs.getD j .non) (ys.getD j .non))&&f.toArray.size==d.toArray.size)=eqVs vs ys:=by ext eqVs;rw[Aq,Aq,D,C]
 cases c with
 | true=>show SeqAt.RcNeAt.tuples (e:=λj=>eqV (vs.getD j .non) (ys.getD j .non)) l k 'o' o _ _ _ _ (.bl _,H,I,rfl,by rw[n];show q)
 | false=>show SeqAt.RcAt.tuples (e:=λj=>eqV (vs.getD j .non) (ys.getD j .non)) l k 'o' o _ _ _ _ (.bl _,H,I,rfl,by rw[n];show q)
def Fb:Xm X (.builtin "sorted") (λxs H Q=>∃(p:Uj) (f:List Int),xs=[V.ref p]/\SqL X.K H p (f.map V.int)/\f.length<64/\∀q (d:List Int),H q=none->d.Perm f->d.Pairwise (·<=·)->Q (.ref q) (upd H q (.lst (d.map V.int)))):=by
 intro pins s σ H xs A Q I r h;let(p,f,rfl,n,B,q):=h;let(u,rfl,t):=Vz r;cases t;let(i,v,w,x):=I.list n;have k:=Z59 v;have C:=k.length;show sorted_ints w.isList k 'o' λc d z m y=>?_;let(e,g):=sortedAll_at s.heap i c;have l:c=c.toList.toArray:=by simp
 rw[l] at g;have j:s⁻¹<=s⁻¹+1:=mn _;show(.ref (s⁻¹+1),_,I.laid (a:=s⁻¹+1) (o:= .lst (d.map V.int)) (t':=s.toks) (λb u e=>sortedAll_old (out:=c) e) j (?_,c.toList,e,Wu z,by rw[<-l] at g |-;show g),rfl,q _ d (I.hok.fresh j) m y);rw[Ai,m.length_eq,Mw];lia
def Yj6:LV->Hp->VK->Prop:=λb H Q=>∃d a,b=[V.ref d]/\H d=some (.dK a)/\∀p,H p=none->Q (.ref p) (upd H p (.lst (a.map λq=>kV q.1)))
def Z66(R:X.calm=true):Xm X (.type "list") Yj6:=by
 intro pins s σ H Z us Q I r h;let(d,j,rfl,P,q):=h;let(u,rfl,L):=Vz r;cases L;let(D,M,C,E,S):=I.hok d _ P;let(T,B):=S.dictAt;have N:C.length=j.length:=E.length.symm;show PySem.W.kdl_call (PySem.W.kdl_dict (knd:=Zl X.prog X.w) (kvs:=C) (ep:=T) M) (I.ok.hd R) B (by rw[N];show D) λh' K f c k g J=>?_;have e:f=f.toList.toArray:=by simp
 rw[e] at g;show(.ref _,_,I.laid (a:=s⁻¹) (o:= .lst (j.map λq=>kV q.1)) (t':=K) k (na _) (by rw[Ai];show D,f.toList,c,?_,g),rfl,q _ (I.hok.fresh (na _)));have n:∀(k:Key) (v:Uh),(Zl X.prog X.w).is k v=true->RelV (kV k) v:=λk v F=>by
  rw[Z67] at F;rcases Zs F with⟨i,t,rfl,rfl⟩|⟨x,t,rfl,rfl⟩
  .exact(t,rfl)
  .exact(t,rfl)
 have p:∀{a:List (Key×V)} {b:List (Key×Uh)} {l:LW},KV a b->l.length=b.length->(∀(i:Nat) x,l[i]?=some x->∃k y,b[i]?=some #v[k,y]/\(Zl X.prog X.w).is k x=true)->Vals (a.map λq=>kV q.1) l:=by
  intro a b l h;induction h generalizing l with
  | nil=>intro m _;cases Du.mp m;show .nil
  | cons e r O=>
   intro m G;cases l with
   | nil=>cases m
   | cons x l=>let(k,y,Y,U):=G 0 x rfl;cases Y;show .cons (by have z:=e.1;change L2.RelV (kV _) x;rw[z];show n _ _ U) (O ↥m λi x A=>by simpa using G (i+1) x ↥A)
 show p E (by rw[Ir];show J.1) λi x A=>J.2 i x (by rw[<-Array.getElem?_toList];show A)
def Yk1:LV->Hp->VK->Prop:=λa H Q=>∃j:Int,a=[V.int j]/\0<=j/\j<=1000000/\∀p,H p=none->Q (.ref p) (upd H p (.rng 0 j))
def Ez:Xm X (.type "range") Yk1:=by intro pins s σ H d f Q I r h;let(j,rfl,i,g,q):=h;let(u,rfl,c):=Vz r;let(t,rfl):=c;show call_range_1 (.ref _,_,I.laid (a:=s⁻¹) (o:= .rng 0 j) (t':=s.toks+1+1) (λb u e=>Ah _ e) (na _) (_,_,_,Dp _ rfl),rfl,q _ (I.hok.fresh (na _)))
def Ya7:LV->Hp->VK->Prop:=λa H Q=>∃(p:Uj) (j:Int),a=[V.ref p]/\H p=some (.rng 0 j)/\0<=j/\j<=1000000/\∀l,H l=none->Q (.ref l) (upd H l (.lst ((Aj j.toNat).map fun(k:Nat)=>V.int (0+(k:Int)))))
def C8(K:X.calm=true):Xm X (.type "list") Ya7:=by
 intro pins s σ H L M Q I r h;let(p,j,rfl,F,O,N,q):=h;let(u,rfl,C):=Vz r;cases C;let(t,u,v,e):=I.hok p _ F;have G:Builtin.Range.rangeSize 0 j 1=(j.toNat:Nat):=by rw[rangeSize_one];split<;>lia
 show call_list_range (I.ok.hd K) (show IsRange s.heap p 0 j 1 t u v from e) (small_one 'd' 'd' 'o' 'o') G 'o' λP B b c k g A=>?_;have e:b=b.toList.toArray:=by simp
 rw[e] at g;show(.ref _,_,I.laid (a:=s⁻¹) (o:= .lst ((Aj j.toNat).map fun(k:Nat)=>V.int (0+(k:Int)))) (t':=B) k (na _) (by rw[Ai,Kj];show ni (show j.toNat<=1000000 by lia) 'd',b.toList,c,?_,g),rfl,q _ (I.hok.fresh (na _)));have w:∀(n:Nat) (l:LW),l.length=n->(∀(i:Nat) x,l[i]?=some x->∃t,x= .int (0+i * 1) t)->Vals ((Aj n).map fun(k:Nat)=>V.int (0+(k:Int))) l:=by
  intro n;induction n with
  | zero=>intro l d _;cases Du.mp d;show .nil
  | succ n D=>
   intro l d y;have f:l≠[]:=λz=>by rw[z] at d;cases d
   have e:=Ib f;rw[<-e,Kl,As];have J:l.dropLast.length=n:=by rw[List.length_dropLast,d];rfl
   show Vals.append (D _ J λi x m=>y i x ?_) (.cons ?_ .nil)
   .rw[<-e,De (Ab.mp m).1];show m
   .let(t,E):=y n (l.getLast f) (by
     rw[List.getLast_eq_getElem,Aa 'o'];erw[d,Nat.add_sub_cancel])
    show(t,by rw[E,Int.mul_one])
 show w _ _ (by rw[Ir];show A.1) λi x m=>A.2 i x (by rw[<-Array.getElem?_toList];show m)
end
end L3
namespace ZT
open PySem PyProof.Rows
structure Nx(P:Uk)(w:Ul)(i l:Uj)(its:Array Uh)(St:Nat->Um->Prop):Prop where
 obj:∀k h,St k h->∃o,h.get? i=some o/\o.cls≠ .type "zip"/\∀v,o.data≠ .cell v
 stay:∀k h h',St k h->(∀b o,b=i\/b=l->h.get? b=some o->h'.get? b=some o)->St k h'
 item:∀{A:Around} {E:VSP} {s:Ui} {k:Nat} {x:Uh} {Q:VSP},St k s.heap->its[k]?=some x->(∀h',St (k+1) h'->Lh i s.heap h'->Q x {s with heap:=h'})->wpAny (model P w) A (Builtin.SmallTypes.nextOf (.ref i)) Q E s
 done:∀{A:Around} {E:VSP} {s:Ui} {k:Nat} {Q:VSP},A.handled=none->St k s.heap->its[k]?=none->(∀h' e,(∀c o,c≠i->s.heap.get? c=some o->h'.get? c=some o)->(∃o,h'.get? e=some o/\o.cls= .type "StopIteration")->E (.ref e) {s with heap:=h'})->wpAny (model P w) A (Builtin.SmallTypes.nextOf (.ref i)) Q E s
end ZT
namespace L3
open PySem PySem.Spec PyProof.Rows L2
end L3
namespace L2
open PySem PySem.Spec PyProof.Rows PySem.W
section
variable{prog:Uk}{w:Ul}{A:Around}{E:VSP}{J:Ui->Prop}{l q I S:Uj}{N:Nat}{P:Nat->Uh->Prop}{KF:Nat->Int->Prop}{R:Result->Ui->Prop}{Q:VSP}
def Y76(hh:A.handled=none)(hl:∀z,J z->∃vs:LW,z.heap.IsList l vs.toArray/\vs.length=N/\∀i v,vs[i]?=some v->P i v)(lI:l≠I)(SI:S≠I)
  (jI:∀(z:Ui) h' d,J z->(∀b o,b∉[I]->z.heap.get? b=some o->h'.get? b=some o)->J {z with heap:=h',toks:=d})
  (jS:∀(z:Ui) h',J z->Lh S z.heap h'->J {z with heap:=h'})
  (H:∀i v,i<N->P i v->∀(z:Ui) oS G,J z->z.heap.get? S=some oS->z.heap.get? I=some G->(∀v,oS.data≠ .cell v)->(∀v,G.data≠ .cell v)->
   wpAny (model prog w) A.in1 (call (.ref q) [v]) (λx X=>∃k t,x= .int k t/\KF i k/\J X/\X.heap.get? S=some oS/\X.heap.get? I=some G) (λ_ _=>False) z)
  (hR:∀i v z,i<N->P i v->(∃k,KF i k/\∀a,a<N->∃d,KF a d/\k<=d/\(a<i->k<d))->J z->R (.ok (.ret v)) z):
  ∀(r j:Nat) (z:Ui) (D:Uh) (g:Int) (s:Tok) (c:Nat),N - (j+1)=r->j+1<=N->J z->z.heap.get? S=some (seqObj "list" #[D,.int g s] c)->z.heap.IsListIter I l (j+1)->(∃p,p<j+1/\P p D/\KF p g/\∀a,a<j+1->∃d,KF a d/\g<=d/\(a<p->g<d))->
   codeAny (model prog w) A (.builtin "min.loop" ([.ref I,.ref q,.ref S],[])) R z:=by
 have nm:(toString "min"++toString ".loop":String)="min.loop":='d';intro r;induction r with
 | zero=>intro j z D g s c hr hj O M hI hb;let(vs,il,vl,vp):=hl z O;have Y:=Walks.list (prog:=prog) (w:=w) (A:=A.in1) hh I l lI vs.toArray;have Z:vs.toArray.size=vs.length:=Aq ..;have e:j+1=vs.length:='o';show Lb PySem.F.entry_min_loop ?_;rw[Km Kr _];change wpAny _ A.in1 (seqItems? (.ref S) >>=_) _ _ z;show Ac (wpAny_seqItems M rfl ?_);change wpAny _ A.in1 (tryCatch (pyNext (.ref I)) _ >>=_) _ _ z;show Ac (Mc (Y.done _ _ _ (by rw[Z,<-e];show hI,il) λW k1 K=>?_));have J1:=jI z W k1 O K;have C:=K S _ ↥SI M;change wpAny _ A.in1 (updateSeq S (λ_=>#[]) >>=_) _ _ _;show Ac (wpAny_updateSeq C rfl (Ac (wpAny_letGo (Ao ?_))));let(p,b1,b2,b3,V):=hb;show hR p D _ 'o' b2 (g,b3,λa hi=>V a 'o') (jS _ _ J1 (Mj W S (Ma λ_=>(#[]:Array Uh))))
 | succ r ih=>
  intro j z D g s c hr hj O M hI hb;let(vs,il,vl,vp):=hl z O;have Y:=Walks.list (prog:=prog) (w:=w) (A:=A.in1) hh I l lI vs.toArray;have Z:vs.toArray.size=vs.length:=Aq ..;have lt:j+1<vs.length:='o';show Lb PySem.F.entry_min_loop ?_;rw[Km Kr _];change wpAny _ A.in1 (seqItems? (.ref S) >>=_) _ _ z;show Ac (wpAny_seqItems M rfl ?_);change wpAny _ A.in1 (tryCatch (pyNext (.ref I)) _ >>=_) _ _ z;show Ac (Mc (Y.item (j+1) _ _ _ (by rw[Z];show lt) (hI,il) λv W k1 hP st K=>?_));have hv:P (j+1) v:=vp (j+1) v ↥hP;let(G,z0,L,y):=id st.1;have J1:=jI z W k1 O K;have C:=K S _ ↥SI M;change wpAny _ A.in1 (tryCatch (holding [v] (call (.ref q) [v])) _ >>=_) _ _ _;show Ac (Mc (Ka (Hl (H (j+1) v 'o' hv _ _ _ J1 C z0 (λ_ z=>nomatch z) (by rw[y];show λ_ z=>nomatch z)) (λx U he=>?_) λ_ _ f=>f.elim)));let(h,m,rfl,u,J2,B,T):=he;change wpAny _ A.in1 (tryCatch (holding [v,.int h m] (richCompare .Lt (.int h m) (.int g s) >>=_)) _ >>=_) _ _ _;show Ac (Mc (Ka (Ac (richCompare_gives (op:= .Lt) (typeIs_int U _ m) (typeIs_int U _ s) F.slot_int_lt F.entry_int_lt (F.args_int_lt_2 _ _) (gives_int_lt _ _ m s) (λx=>nomatch x) ?_))));show Ac (Ka (wpAny_truthy_bool ?_));show Ac (wpAny_letGo (Ao ?_));let(p,b1,b2,b3,V):=hb;by_cases n:h<g
  .simp only[n,decide_true,if_true];show Ac (wpAny_updateSeq B rfl (Ac (wpAny_letGo ?_)));rw[nm];have sb:=Mj U.heap S (Ma λ_=>#[v,.int h m]);obtain⟨c2,y0⟩:∃c2,(U.heap.update S (Ma λ_=>#[v,.int h m])).get? S=some (seqObj "list" #[v,.int h m] c2):=(_,get?_update_seq B λ_=>#[v,.int h m]);show Ao (Lw Kr _,ih (j+1) _ v h m c2 'o' 'o' (jS _ _ J2 sb) y0 (G,(sb.2 I SI.symm).trans T,L,y) (j+1,'o',hv,u,λa hi=>by
    by_cases e:a=j+1
    .subst e;show(h,u,Int.le_refl _,'o')
    .let(d,q1,q2,q3):=V a 'o';show(d,q1,'o',λ_=>by lia)))
  .simp only[n,decide_false,Bool.false_eq_true,if_false];show Ac (wpAny_letGo ?_);rw[nm];show Ao (Lw Kr _,ih (j+1) _ D g s c 'o' 'o' J2 B (G,T,L,y) (p,'o',b2,b3,λa hi=>by
    by_cases e:a=j+1
    .subst e;show(h,u,'o','o')
    .show V a 'o'))
def Yi7{s:Ui}(hh:A.handled=none)(hl:∀z,J z->∃vs:LW,z.heap.IsList l vs.toArray/\vs.length=N/\∀i v,vs[i]?=some v->P i v)(r:∃vs:LW,s.heap.IsList l vs.toArray)(H:0<N)
  (j0:∀h' d,(∀b o,s.heap.get? b=some o->h'.get? b=some o)->J {s with heap:=h',toks:=d})
  (jI:∀(z:Ui) h' d,J z->(∀b o,b∉[s⁻¹]->z.heap.get? b=some o->h'.get? b=some o)->J {z with heap:=h',toks:=d})
  (jS:∀(z:Ui) h',J z->Lh (s⁻¹+1) z.heap h'->J {z with heap:=h'})
  (a:∀i v,i<N->P i v->∀(z:Ui) B h,J z->z.heap.get? (s⁻¹+1)=some B->z.heap.get? s⁻¹=some h->(∀v,B.data≠ .cell v)->(∀v,h.data≠ .cell v)->
   wpAny (model prog w) A.in1 (call (.ref q) [v]) (λx u=>∃k t,x= .int k t/\KF i k/\J u/\u.heap.get? (s⁻¹+1)=some B/\u.heap.get? s⁻¹=some h) (λ_ _=>False) z)
  (hQ:∀i v z,i<N->P i v->(∃k,KF i k/\∀m,m<N->∃d,KF m d/\k<=d/\(m<i->k<d))->J z->Q v z):wpAny (model prog w) A (call (.builtin "min") [.ref l] [#v[Str.ofString "key",.ref q]]) Q E s:=by
 have X:(toString "min"++toString ".loop":String)="min.loop":='d';let(z0,r):=r;let(ol,C,_):=id r;have ll:l<s⁻¹:=Dd C;have Y:l≠s⁻¹:=nj ll;have U:s⁻¹+1≠s⁻¹:='o';show kmk_tree PySem.F.kind_min PySem.F.plain_min PySem.F.entry_min (kmk_min_key _ _) ?_;change wpAny _ A.in1 (Builtin.Builtins.bindParams "min" ["key","default"] 0 ([],[#v[Str.ofString "key",.ref q]]) >>=_) _ _ s;show Ac (wpAny_of_eq (show Builtin.Builtins.bindParams "min" ["key","default"] 0 ([],[#v[Str.ofString "key",.ref q]])=pure [↑q,none] from rfl) (Ac (Ao ?_)));show Ac (wpAny_pyIter_list r (Ac (wpAny_newList ?_ (nk _))));rw[X];have eS:(s.heap.push {cls:= .type "list_iterator",data:= .fields #[.ref l,.int 0 0]}).objs.size=s⁻¹+1:=size_push' ..;rw[eS];show Ao (Lw Kr _,?_);generalize O:(s.heap.push {cls:= .type "list_iterator",data:= .fields #[.ref l,.int 0 0]}).push (seqObj "list" #[] 0)=hp;have gI:hp.get? s⁻¹=some {cls:= .type "list_iterator",data:= .fields #[.ref l,.int 0 0]}:=by rw[<-O];show Ah _ (Dp _ rfl)
 have gS:hp.get? (s⁻¹+1)=some (seqObj "list" #[] 0):=by rw[<-O,<-eS];show Dp _ rfl
 have y:∀b o,s.heap.get? b=some o->hp.get? b=some o:=λb o e=>by rw[<-O];show Ah _ (Ah _ e)
 have J0:=j0 hp s.toks y;let(vs,il,vl,vp):=hl _ J0;have wk:=Walks.list (prog:=prog) (w:=w) (A:=A.in1) hh s⁻¹ l Y vs.toArray;have sz:vs.toArray.size=vs.length:=Aq ..;show Lb PySem.F.entry_min_loop ?_;rw[Km Kr _];change wpAny _ A.in1 (seqItems? (.ref _) >>=_) _ _ _;show Ac (wpAny_seqItems gS rfl ?_);change wpAny _ A.in1 (tryCatch (pyNext (.ref s⁻¹)) _ >>=_) _ _ _;show Ac (Mc (wk.item 0 _ _ _ (by rw[sz];lia) ((_,gI,rfl,rfl),il) λv h1 k1 hP st Z=>?_));have hv:P 0 v:=vp 0 v ↥hP;let(h,G,D,n):=id st.1;have J1:=jI _ h1 k1 J0 Z;have L:=Z (s⁻¹+1) _ ↥U gS;change wpAny _ A.in1 (tryCatch (holding [v] (call (.ref q) [v])) _ >>=_) _ _ _;show Ac (Mc (Ka (Hl (a 0 v H hv _ _ _ J1 L G (λ_ z=>nomatch z) (by rw[n];show λ_ z=>nomatch z)) (λx V he=>?_) λ_ _ f=>f.elim)));let(c,g,rfl,j,J2,p,M):=he;change wpAny _ A.in1 (updateSeq (s⁻¹+1) (λ_=>#[v,.int c g]) >>=_) _ _ _;show Ac (wpAny_updateSeq p rfl ?_);rw[X];have W:=Mj V.heap (s⁻¹+1) (Ma λ_=>#[v,.int c g]);obtain⟨T,K⟩:∃T,(V.heap.update (s⁻¹+1) (Ma λ_=>#[v,.int c g])).get? (s⁻¹+1)=some (seqObj "list" #[v,.int c g] T):=(_,get?_update_seq p λ_=>#[v,.int c g]);show Ao (Lw Kr _,Y76 hh hl Y U jI jS a hQ _ 0 _ v c g T rfl 'o' (jS _ _ J2 W) K (h,(W.2 _ U.symm).trans M,D,n) (0,'o',hv,j,λm hi=>by
  have:m=0:='o';subst this;show(c,j,Int.le_refl _,'o')))
end
def W6:Str:=(("chosen_head":Str)++".<locals>.")++"<lambda>"
def Vu(p1:Pos):Arguments:={posonlyargs:=[],args:=[("head",none,p1)],vararg:=none,kwonlyargs:=[],kw_defaults:=[],kwarg:=none,defaults:=[]}
def Td(p1 p2 p3 p4 p5 p6 p7 p8:Pos):Expr:= .Call (.Name "len" p1) [.Call (.Name "come_round" p2) [.Name "goals" p3,.Name "together" p4,.Name "doors" p5,.Name "head" p6] [] p7] [] p8
def Zy:Scope:={kind:= .function,names:=[#v["head",.local],#v["doors",.free],#v["goals",.free],#v["together",.free],#v["len",.globalImplicit],#v["come_round",.globalImplicit]],isGenerator:=false,isCoroutine:=false,more:=[]}
def Y9(c:Uj):Um->Prop:=λh=>h.CodeRec (.ref c) W6
abbrev Pl(c1 c2 c3:Uj):List (Str×Uj):=[#v["together",c2],#v["goals",c1],#v["doors",c3]]
def V0(f c1 c2 c3 c:Uj):Um->Prop:=λh=>∃n m l k j i g e d b a,h.get? f=some (kla_obj "<lambda>" W6 (Vu n) (Td m l k j i g e d) Zy (Pl c1 c2 c3) b c a)
def Zq2{w:Ul}{H:Hp}{c:Uj}(x:Y9 c h):Yb P w H h c (.ext (Y9 c)):=by
 show(x,?_,λg f q k=>?_)
 .let(d,o,_,_,e,a,_):=x;cases e;show(o,a)
 .let(d,o,b,t,e,a,r):=q;cases e;show(c,o,b,t,rfl,k o a,r)
def Zf1{w:Ul}{H:Hp}{f c1 c2 c3 c:Uj}(x:V0 f c1 c2 c3 c h):Yb P w H h f (.ext (V0 f c1 c2 c3 c)):=by
 show(x,?_,λs r q k=>?_)
 .let(p,o,n,m,l,j,i,g,d,b,a,e):=x;show(_,e)
 .let(p,o,n,m,l,j,i,g,d,b,a,e):=q;show(p,o,n,m,l,j,i,g,d,b,a,k _ e)
def Zu2{c a d b:Uh}:bindArgs (kla_fn "<lambda>" W6 (Vu p1) body Zy e c a d) ([b],[])=(pure [#v[("head":Str),b]]:Sem (List (Str×Uh))):=by rfl
def Sj{E:VSP}{s:Ui}(c:starEach (e::es) env=#v[false,eval e env]::starEach es env)
  (h:wpAny M A (eval e env) (λu b=>wpAny M A (spliced (backTo pos (starEach es env))) (λus a=>Q (u::us) a) E b) E s):wpAny M A (spliced (backTo pos (starEach (e::es) env))) Q E s:=by
 rw[c];change wpAny _ _ (spliced (#v[false,eval e env]::backTo pos (starEach es env))) _ _ s;show Calls.spliced_cons h
section
variable{X:Cx}{pins:PLO}{σ:St}{H:Hp}{s:Ui}
def Ze7{A:Around}{f c c1 c2 c3 fc:Uj}{x:Int}{t:Tok}{D C B:Uh}{S R P:V}{k:Nat}{fd:FuncData}{sp:Sp}{CX:CXT}{Q:VK}{EX:XK}{pr:LS}{ds:LW}{dvs:LV}(I:'v')(hA:A.frames=some X.stack)(hr:Room (k+1) A)(h1:H f=some (.ext (V0 f c1 c2 c3 c)))(h2:H c=some (.ext (Y9 c)))
  (g1:∃o,s.heap.get? c1=some o/\o.data= .cell (some D)) (g2:∃o,s.heap.get? c2=some o/\o.data= .cell (some C)) (g3:∃o,s.heap.get? c3=some o/\o.data= .cell (some B)) (r1:RelV S D) (r2:RelV R C) (r3:RelV P B)
  (F:FnOk X.prog X.w X.K X.mg X.base CX k fc fd pr sp) (hm:X.mg "len"=none) (hc:X.mg "come_round"=↑fc) (hk:Hm X.K (.ref fc)=true) (j:Yo X.K fd pr ds) (hd:Vals dvs ds)
  (i:∀out H s e s',CX out H s EX e s'->False) (q:sp ([S,R,P,.int x]++dvs) H Q EX) {KL:Nat->Prop} (hQ:∀v H',Q v H'->∃r ys,v= .ref r/\SqL X.K H' r ys/\KL ys.length):
  wpAny (model X.prog X.w) A (call (.ref f) [.int x t]) (λv z=>∃(kk:Int) (t':Tok) (r:Uj) (H':Hp) (l:Nat),v= .int kk t'/\Inv X pins σ H' z/\Q (.ref r) H'/\KL l/\kk=(l:Nat)) (λ_ _=>False) s:=by
 let((p1,p2,p3,p4,p5,p6,p7,p8,p9,pm,x0,ho),_,_):=I.hok f _ h1;let(Y,_):=I.hok c _ h2;let(o1,d1,e1):=g1;let(o2,d2,e2):=g2;let(o3,d3,e3):=g3;show Ly (kla_callFunE (by have:=hr.dp;lia) ho rfl rfl rfl rfl Y ?_);rw[Zu2];show Ao (wpAny_newFunctionEnv (λx i=>?_) (λx i=>?_) (λg M G=>(I.nolimit.fresh _ G,?_)) rfl)
 .simp[Zy] at i;rcases i with rfl|rfl|rfl|rfl|rfl|rfl<;>decide
 .simp at i;rcases i with rfl;rfl
 .have d:∀b o,s.heap.get? b=some o->g.get? b=some o:=λb o e=>G.extBut b o (nj (Dd e)) (Ah _ e);have E:∀tk,Inv X pins σ H {s with heap:=g,toks:=tk}:=λtk=>I.kept d;change codeAny _ _ (.expr (Td p2 p3 p4 p5 p6 p7 p8 p9) (envX W6 Zy s⁻¹ f (.ref c) (Pl c1 c2 c3))) _ _;show kla_codeExpr ?_;let(mb,b1,b2):=I.mod.blt;show Ik (Lu rfl rfl (Calls.loadGlobal_builtin (I.mod.glob.keeps (E 0).bk) hm (b1.keeps (E 0).bk) ((b2 "len" 'd').trans rfl) ?_) rfl);show PyProof.Rows.callWith_builtin1 (Sj rfl ?_) rfl rfl;show Ik (Lu rfl rfl (Calls.loadGlobal_global (I.mod.glob.keeps (E 0).bk) hc ?_) rfl);show PySem.W.callWith_K (first:=[]) (h₀:=X.base) I.ok.mod.kin hk (Sj rfl (Uf (wpAny_loadName_free rfl rfl rfl (o1,d _ _ d1,e1) ?_))) rfl rfl;show Sj rfl (Uf (wpAny_loadName_free rfl rfl rfl (o2,d _ _ d2,e2) ?_));show Sj rfl (Uf (wpAny_loadName_free rfl rfl rfl (o3,d _ _ d3,e3) ?_));show Sj rfl (Uf (wpAny_loadName_local rfl rfl M rfl (Calls.spliced_nil ((E 0).kIn,?_))));have p:H s⁻¹=none:=I.hok.fresh (na _);have nb:X.base.get? s⁻¹=none:=by
   cases e:X.base.get? s⁻¹ with
   | none=>rfl
   | some o=>show absurd (Dd (I.bk _ _ e)) (nv _)
  have e0:Env0 X.prog X.w X.K X.mg X.base (A.deeper (envX W6 Zy s⁻¹ f (.ref c) (Pl c1 c2 c3))) (envX W6 Zy s⁻¹ f (.ref c) (Pl c1 c2 c3)::X.stack) {s with heap:=g,toks:=s.toks+[#v[(Str.ofString "head"),Value.int x t]].length} H:=by
   have y:=(E (s.toks+[#v[(Str.ofString "head"),Value.int x t]].length)).env0;show(?_,y.mod,y.bs,y.bsz,Heap.FunFrames.cons (show ScopeKind.function≠ScopeKind.module by decide) rfl M nb y.funs,λb j=>?_,y.hok,y.bare)
   .change A.frames.map _=_;rw[hA];rfl
   .rcases Ak.mp (show b∈s⁻¹::frs X.stack from j) with rfl|j
    .show p
    .show y.frf b j
  have rv:Vals [S,R,P,.int x] [D,C,B,.int x t]:= .cons r1 (.cons r2 (.cons r3 (.cons (t,rfl) .nil)));show Ly (Kw (F.run _ _ _ H ([D,C,B,.int x t],[]) ([D,C,B,.int x t]++ds) ([S,R,P,.int x]++dvs) Q EX (hr.deeper _) e0 (j _ [D,C,B,.int x t] (E _).kIn (by rw[<-(rv.append hd).length];show F.len _ _ _ _ q)) (rv.append hd) q) λr z J=>?_);cases r with
  | error e=>show(i _ _ _ _ _ J).elim
  | ok fl=>
   cases fl with
   | next=>show Dq J
   | brk=>show Dq J
   | cont=>show Dq J
   | ret u=>
    let(v,H',os,O,h,L,U,qv):=J;let(rr,ys,rfl,sq,kl):=hQ v H' qv;cases (show u=Value.ref rr from U);have ne:∀b o,s.heap.get? b=some o->b≠s⁻¹:=λb o e=>nj (Dd e);have fr:∀b,b∈frs (envX W6 Zy s⁻¹ f (.ref c) (Pl c1 c2 c3)::X.stack)->b=s⁻¹\/b∈frs X.stack:=λb j=>Ak.mp (show b∈s⁻¹::frs X.stack from j);have T:Un (frs X.stack) [] H H' s.heap z.heap:=by show(λb o e n Z m=>h.keep b o (d b o e) n (λz=>(fr b z).elim (ne b o e) Z) m,λb o e n Z m=>h.slot b o (d b o e) n (An (a:=b) s⁻¹ Z) m,λb o e n m=>h.free b o (d b o e) n m,λb o e m=>h.there b o (d b o e) m,h.tups,h.frzs,h.tbls)
    let(hz,gz,dz,tz,oz):=z;obtain rfl:oz=s.os:=os;have I2:Inv X pins σ H' (hz,gz,dz,tz,s.os):=I.call (h':=hz) (g':=gz) (d':=dz) (t':=tz) (ch:=[]) T L O (λb z=>absurd z 's');show Calls.spliced_nil ?_;let(z0,r',pl,y0):=I2.list sq;have N:=r'.length;have hn:=Tu;show Calls.call_len_list pl.isList (by erw[Aq]<;>lia) ?_;show(_,_,rr,H',ys.length,rfl,I2.tok _,qv,kl,by erw[Aq];rw[N])
def Tri(H:Hp)(ps:Array Uh):Prop:=TriplesOk ps.toList/\∀a v,codeAmong a ps.toList=some v->∃c,v= .ref c/\H c=some (.ext (Y9 c))
def Tri.keep{H H':Hp}(x:Tri H ps)(k:∀c,H c=some (.ext (Y9 c))->H' c=some (.ext (Y9 c))):Tri H' ps:=
 (x.1,λa v e=>by let(c,q,r):=x.2 a v e;show(c,q,k c r))
def Tri.nil(H:Hp):Tri H #[]:=(trivial,λ_ _ e=>by cases e)
def Za9{pos q:Pos}{c v:Uh}:∀(l:LW),TriplesOk l->codeAmong pos (l++[rawInt q.line,rawInt q.col,c])=some v->codeAmong pos l=some v\/v=c:=by
 intro l h
 fun_induction TriplesOk l with
 | case1=>
  intro e;erw[Mr,codeAmong,rawInt] at e;split at e
  .cases e;show .inr rfl
  .cases e
 | case2 a t b u x f g=>
  intro e;erw[Kh,codeAmong] at e |-;split at e
  .rename_i d;rw[ng d];show .inl e
  .rename_i d;rw[nc d];show g h e
 | case3 l j i=>show h.elim
def Tri.snoc{H H':Hp}{ps:Array Uh}{pos:Pos}{c:Uj}(x:Tri H ps)(k:∀c,H c=some (.ext (Y9 c))->H' c=some (.ext (Y9 c)))(f:H' c=some (.ext (Y9 c))):Tri H' (ps++#[rawInt pos.line,rawInt pos.col,.ref c]):=by
 show(?_,λq v e=>?_)
 .rw[Array.toList_append];show TriplesOk_snoc _ _ _ _ x.1
 .rw[Array.toList_append] at e;rcases Za9 (q:=pos) ps.toList x.1 e with e|e
  .let(a,d,b):=x.2 q v e;show(a,d,k a b)
  .exact(c,e,f)
structure Bs(K:Ae)(mg:Str->Option Uh)(base:Um):Prop where
 bm:∃bm ob,mg "__builtins__"=↑bm/\bm≠builtinsNs/\base.get? bm=some ob/\ob.cls= .type "module"/\ob.dict=some builtinsNs/\ob.data= .plain
 cd:∀c P,tabIn K "chosen_head"=some #v[c,P]->CodeHd base c P
def Zx3{c0 P c1 c2 c3:Uj}{ps:Array Uh}{p1 p2 p3 p4 p5 p6 p7 p8 p9 pos:Pos}{Q:VSP}(I:'v')(B:Bs X.K X.mg X.base)(hq:X.env.qual=("chosen_head":Str)++".<locals>.")(l:X.env.code= .ref c0)
  (ht:tabIn X.K "chosen_head"=some #v[c0,P]) (g:H P=some (.tbl ps)) (G:Tri H ps) (T:closureFor Zy X.env=(pure (Pl c1 c2 c3):Sem (List (Str×Uj))))
  (h:∀f c F s',Inv X pins σ F s'->F f=some (.ext (V0 f c1 c2 c3 c))->F c=some (.ext (Y9 c))->(∃J,F P=some (.tbl J)/\Tri F J)->(∀b o,b≠P->H b=some o->F b=some o)->Q (.ref f) s'):
  ⇑X (eval (.Lambda (Vu p1) (Td p2 p3 p4 p5 p6 p7 p8 p9) Zy pos) X.env) Q X.xe s:=by
 show kla_eval rfl ?_;rw[hq];have D:s.heap.get? P=some (tabObj ps):=I.hok P _ g;have C:=(B.cd c0 P ht).keeps I.bk;have nb:∀b o,X.base.get? b=some o->b≠P:=λb o e z=>by have:=(I.bs b o e).2;rw[z,g] at this;cases this
 let(bm,ob,b1,b2,Z,b4,b5,b6):=B.bm;have R:=I.mod.glob.keeps I.bk;have x0:bm≠mainGlobals:=λq=>by let(o,es,ep,e,hd,_):=I.mod.glob;rw[q,e] at Z;cases Z;rw[hd] at b6;cases b6
 have z0:mainGlobals≠P:=by let(o,es,ep,e,hd,_):=I.mod.glob;show nb _ _ e
 have Y:s.heap.BuiltinsAt X.mg P:=(bm,ob,b1,b2,x0,nb _ _ Z,I.bk _ _ Z,b4,b5,b6);cases O:codeAmong pos ps.toList with
 | some cv=>
  let(c,rfl,W):=G.2 pos cv O;show kla_makeFunctionHit (mg:=X.mg) T I.ok.glob R l C D G.1 O Y λp d tk hk M=>?_;have y:H d.objs.size=none:=I.hok.fresh M;have v:∀b u,s.heap.get? b=some u->(d.push (kla_obj "<lambda>" W6 (Vu p1) (Td p2 p3 p4 p5 p6 p7 p8 p9) Zy (Pl c1 c2 c3) ((X.mg "__name__").getD .none) c p)).get? b=some u:=λb u e=>Ah _ (hk b u e);show h d.objs.size c (upd H d.objs.size (.ext (V0 d.objs.size c1 c2 c3 c))) _ (I.laid v M (Zf1 (p1,p2,p3,p4,p5,p6,p7,p8,p9,_,p,Dp _ rfl))) Zc ?_ ?_ λb o _ e=>?_
  .exact(Z6 (Zn W y)).trans W
  .exact(ps,(Z6 (Zn g y)).trans g,G.keep λc e=>(Z6 (Zn e y)).trans e)
  .exact(Z6 (Zn e y)).trans e
 | none=>
  show kla_makeFunction (mg:=X.mg) T I.ok.glob R l C D G.1 O z0 Y λc p d tk hx t x N L=>?_;have V:H c=none:=I.hok.fresh t;have S:H d.objs.size=none:=I.hok.fresh (ni t (mf x));have y0:c≠d.objs.size:=nj x;have v0:P≠c:=Zn g V;have w0:P≠d.objs.size:=Zn g S;have U:∀b o,s.heap.get? b=some o->b≠c/\b≠d.objs.size:=λb o e=>(nj (nh (Dd e) t),nj (Nat.lt_trans (nh (Dd e) t) x));have hH:∀b o,H b=some o->b≠c/\b≠d.objs.size:=λb o e=>(Zn e V,Zn e S);have v:∀b u,b≠P->s.heap.get? b=some u->(d.push (kla_obj "<lambda>" W6 (Vu p1) (Td p2 p3 p4 p5 p6 p7 p8 p9) Zy (Pl c1 c2 c3) ((X.mg "__name__").getD .none) c p)).get? b=some u:=λb u j e=>Ah _ (hx b u j e);have k:∀b,b≠P->b≠c->b≠d.objs.size->upd (upd (upd H P (.tbl (ps++#[rawInt pos.line,rawInt pos.col,.ref c]))) c (.ext (Y9 c))) d.objs.size (.ext (V0 d.objs.size c1 c2 c3 c)) b=H b:=λb h1 h2 h3=>by rw[Z6 h3,Z6 h2,Z6 h1]
  have lP:upd (upd (upd H P (.tbl (ps++#[rawInt pos.line,rawInt pos.col,.ref c]))) c (.ext (Y9 c))) d.objs.size (.ext (V0 d.objs.size c1 c2 c3 c)) P=some (.tbl (ps++#[rawInt pos.line,rawInt pos.col,.ref c])):=by rw[Z6 w0,Z6 v0,Zc]
  have lc:upd (upd (upd H P (.tbl (ps++#[rawInt pos.line,rawInt pos.col,.ref c]))) c (.ext (Y9 c))) d.objs.size (.ext (V0 d.objs.size c1 c2 c3 c)) c=some (.ext (Y9 c)):=by rw[Z6 y0,Zc]
  have i:∀b o,b≠P->H b=some o->upd (upd (upd H P (.tbl (ps++#[rawInt pos.line,rawInt pos.col,.ref c]))) c (.ext (Y9 c))) d.objs.size (.ext (V0 d.objs.size c1 c2 c3 c)) b=some o:=λb o j e=>(k b j (hH b o e).1 (hH b o e).2).trans e;show h d.objs.size c _ _ (I.step (ch:=[]) (g':=s.gens) (d':=s.drawn) (H':=upd (upd (upd H P (.tbl (ps++#[rawInt pos.line,rawInt pos.col,.ref c]))) c (.ext (Y9 c))) d.objs.size (.ext (V0 d.objs.size c1 c2 c3 c))) (λ_ z=>nomatch z) (λb o _ _ _ e n=>v b o (λz=>by rw[z,g] at n;cases n) e) (λb o _ _ _ e n=>(o.slots,v b o (λz=>by rw[z,g] at n;cases n) e)) (λb o _ e n=>?_) (λb o _ e=>?_) (λb xs e=>i b _ (λz=>by rw[z,g] at e;cases e) e) (λb o u e=>i b _ (λz=>by rw[z,g] at e;cases e) e) (λb qs e=>?_) (λm O=>?_) (λb o e=>?_) I.bare) Zc lc (_,lP,G.snoc (λc' e=>i c' _ (λz=>by rw[z,g] at e;cases e) e) lc) i
  .exact(k b (λz=>by rw[z,g] at n;cases n) (U b o e).1 (U b o e).2).trans n
  .by_cases j:b=P
   .subst j;show(_,Ah _ L)
   .exact(o,v b o j e)
  .by_cases j:b=P
   .subst j;rw[g] at e;cases e;show(_,lP)
   .exact(#[],by rw[i b _ j e,Array.append_empty])
  .let(o,es,ep,ho,r):=O;show(o,es,ep,v _ o (λz=>by rw[z,D] at ho;cases ho;cases r.1) ho,r)
  .by_cases y:b=d.objs.size
   .subst y;rw[Zc] at e;cases e;show Zf1 (p1,p2,p3,p4,p5,p6,p7,p8,p9,_,p,Dp _ rfl)
   .by_cases W:b=c
    .subst W;rw[lc] at e;cases e;show Zq2 (N.keeps λb o e=>Ah _ e)
    .by_cases j:b=P
     .subst j;rw[lP] at e;cases e;show Ah _ L
     .rw[k b j W y] at e;show(I.hok b o e).stay (λa u E q=>v a u (λz=>?_) q) (λa q=>i a _ (λz=>by rw[z,g] at q;cases q) q) λa xs q=>i a _ (λz=>by rw[z,g] at q;cases q) q;rcases E with E|E
      .show j (E.symm.trans z)
      .rw[z,g] at E;cases E
end
section
variable{X:Cx}
def Yk5{c:List Int}(r:Vals (c.map V.int) its){i:Nat}{v:Uh}(h:its[i]?=some v):∃x,c[i]?=some x/\∃t,v= .int x t:=by
 induction c generalizing its i with
 | nil=>rw[Dh] at r;cases r;simp at h
 | cons n c d=>
  rw[Az] at r;cases r with
  | cons a b=>
   cases i with
   | zero=>simp at h;subst h;let(t,rfl):=a;show(n,rfl,t,rfl)
   | succ i=>show d b h
def C0{d:St}{H:Hp}{s:Ui}{i:Nat}{x:Str}{v:V}(I:Inv X pins d H s)(n:X.N[i]?=some x)(e:d[i]?=some (some v))(h:Vis X.env.scope x)(q:X.env.cells.lookup x=some g)(k:X.env.kindOf x=some .cell):
  ∃u,RelV v u/\∃o,s.heap.get? g=some o/\o.data= .cell (some u):=by
 let(m,p,c):=I.loc;let(u,j,l):=c i x v n e h;rcases l with⟨f,_⟩|⟨_,r,b,a⟩
 .rw[k] at f;cases f
 .rw[q] at b;cases b;show(u,j,a)
def Y97{c0 T c1 c2 c3 fc:Uj}{k:Nat}{sp:Sp}(B:Bs X.K X.mg X.base)(hq:X.env.qual=("chosen_head":Str)++".<locals>.")(y0:X.env.code= .ref c0)
  (ht:tabIn X.K "chosen_head"=some #v[c0,T]) (t1:closureFor Zy X.env=(pure (Pl c1 c2 c3):Sem (List (Str×Uj)))) (z2:X.env.cells.lookup ("goals":Str)=some c1) (m1:X.env.cells.lookup ("together":Str)=some c2) (o1:X.env.cells.lookup ("doors":Str)=some c3)
  (hc:X.calm=true) (hr:Room (k+2) X.A) (x1:Gl X "min") (z1:X.mg "min"=none) (y1:X.mg "len"=none)
  (n0:X.N[0]?=some ("goals":Str)) (n1:X.N[1]?=some ("together":Str)) (n2:X.N[2]?=some ("doors":Str)) (v0:Vis X.env.scope "goals") (v1:Vis X.env.scope "together") (v2:Vis X.env.scope "doors") (k0:X.env.kindOf "goals"=some .cell) (k1:X.env.kindOf "together"=some .cell) (k2:X.env.kindOf "doors"=some .cell)
  (F:FnOk X.prog X.w X.K X.mg X.base CX k fc fd pr sp) (hm:X.mg "come_round"=↑fc) (hk:Hm X.K (.ref fc)=true) (j:Yo X.K fd pr ds) (hd:Vals dvs ds) (hx:∀out H s e s',CX out H s EX e s'->False):
  PE X (.Call (.Name "min" q1) [.Name "together" q2] [{arg:=some "key",value:= .Lambda (Vu p1) (Td p2 p3 p4 p5 p6 p7 p8 p9) Zy pos,pos:=q3}] q4) (λσ H Q=>
   ∃(w1 w3:V) (n:Uj) (y:List Int) (ps:Array Uh) (Y:Hp->Prop) (KL:Int->Nat->Prop),σ[0]?=some (some w1)/\σ[1]?=some (↑n)/\σ[2]?=some (some w3)/\0<y.length/\H T=some (.tbl ps)/\Tri H ps/\
    (∀g,(∀b o,b≠T->H b=some o->g b=some o)->(∃w0,g T=some (.tbl w0)/\Tri g w0)->Y g)/\(∀g,Y g->SqL X.K g n (y.map V.int))/\
    (∀g,Y g->∀x∈y,sp ([w1,.ref n,w3,.int x]++dvs) g (λv Z=>(∃r ys,v= .ref r/\SqL X.K Z r ys/\KL x ys.length)/\Y Z/\∀b φ,g b=some (.ext φ)->Z b=some (.ext φ)) EX)/\∀(i:Nat) m,y[i]?=some m->(∃l,KL m l/\∀(i':Nat) m',y[i']?=some m'->∃l',KL m' l'/\l<=l'/\(i'<i->l<l'))->∀g,Y g->Q (.int m) g):=by
 rintro a s σ H Q I ⟨w1,w3,n,y,ps,Y,KL,e0,e1,e2,m0,hP,tr,j0,jl,jt,q⟩;show Ik (Ol I x1 z1 rfl ?_);show callWith_kw (Sj rfl (thn (Bz n1 v1 rfl rfl a s σ H (λv g=>v= .ref n/\g=H) I (_,e1,rfl,rfl)) λu s1 zz=>?_));let(v,g,I1,rv,e3,e4):=zz;subst e3 e4;cases (show u=Value.ref n from rv);show Calls.spliced_nil ?_;show kws_cons (Zx3 I1 B hq y0 ht hP tr t1 λf c Z O I2 f1 f2 f3 f4=>kws_nil ?_);change wpAny _ _ (call (.builtin "min") [.ref n] [#v[Str.ofString "key",.ref f]]) _ _ _;have s0:=j0 Z f4 f3;have D:∀{z:Ui} {d:Hp},Inv X a σ d z->Y d->∃vs:LW,z.heap.IsList n vs.toArray/\vs.length=y.length/\∀(i:Nat) (v:Uh),vs[i]?=some v->∃x,y[i]?=some x/\∃t,v=Value.int x t:=fun{z d} C E=>by let(p0,U,pl,_):=C.list (jl d E);have hl:=U.length;rw[Ai] at hl;show(p0,pl.isList,hl.symm,λi v hv=>Yk5 U hv)
 have fI:FpOk X a Z O⁻¹:=I2.fpOk (na _) (I2.hok.fresh (na _));have fS:FpOk X a Z (O⁻¹+1):=I2.fpOk (mn _) (I2.hok.fresh (mn _));show Yi7 (N:=y.length) (P:=fun(i:Nat) (v:Uh)=>∃x,y[i]?=some x/\∃t,v=Value.int x t) (KF:=λi k=>∃x l,y[i]?=some x/\KL x l/\k=((l:Nat):Int)) (J:=λz=>∃d,Inv X a σ d z/\Y d/\d f=some (.ext (V0 f c1 c2 c3 c))/\d c=some (.ext (Y9 c))/\FpOk X a d O⁻¹/\FpOk X a d (O⁻¹+1))
  (I2.ok.hd hc) (λz R=>?_) ?_ m0 (λh' t' kp=>?_) (λz h' t' R kp=>?_) (λz h' R sb=>?_) (λi v hi hv z oS oI R gS gI dS dI=>?_) λi v z hi hv u0 R=>?_
 .let(d,C,E,_):=R;show D C E
 .let(vs,il,_):=D I2 s0;show(vs,il)
 .exact(Z,I2.kept kp,s0,f1,f2,fI,fS)
 .let(d,C,E,a1,a2,M,L):=R;show(d,C.turned (it:=O⁻¹) (λb o j e=>kp b o ↥j e) M.1 M.2.1 M.2.2.2.1 M.2.2.2.2.1 M.2.2.2.2.2,E,a1,a2,M,L)
 .let(d,C,E,a1,a2,M,L):=R;show(d,C.turned (t':=z.toks) (it:=O⁻¹+1) (λb o j e=>(sb.2 b j).trans e) L.1 L.2.1 L.2.2.2.1 L.2.2.2.2.1 L.2.2.2.2.2,E,a1,a2,M,L)
 .let(d,C,E,a1,a2,M,L):=R;let(x,G,t,rfl):=hv;have o0:x∈y:=Am G;have Ip:=C.pinned (fp:=[O⁻¹,O⁻¹+1]) (λb j=>by
   rcases Ak.mp j with rfl|j
   .show M
   .rw[Af.mp j];show L) λb j=>by
   rcases Ak.mp j with rfl|j
   .exact(_,gI,dI)
   .rw[Af.mp j];show(_,gS,dS)
  let(u1,r1,g1):=C0 Ip n0 e0 v0 z2 k0;let(u2,r2,g2):=C0 Ip n1 e1 v1 m1 k1;let(u3,r3,g3):=C0 Ip n2 e2 v2 o1 k2;show Hl (Ze7 (A:=X.A.in1) Ip C.ok.frames (hr.hd,by have:=hr.dp;change X.A.depth+3 * (k+1)+5<_;lia,by have:=hr.un;change X.A.units+1+16 * (k+1)+200<_;lia) a1 a2 g1 g2 g3 r1 r2 r3 F y1 hm hk j hd hx (jt d E x o0) (KL:=KL x) λv r0 z=>z.1) (λv z' h=>?_) λ_ _ z=>z;let(kk,t',r,r0,l,ev,S,(q1,q2,q3),kl,y2):=h;have pI:=S.pin #v[O⁻¹,oI] (Dm _ (Dm _ (X8 Aw gI)));have pS:=S.pin #v[O⁻¹+1,oS] (Dm _ (Dm _ (X8 (An _ Aw) gS)));show(kk,t',ev,(x,l,G,kl,y2),(r0,S.pins_of (λp hp=>S.pin p (Dm _ (Ax _ hp))),q2,q3 _ _ a1,q3 _ _ a2,(pI.2.1,M.2),(pS.2.1,L.2)),pS.1,pI.1)
 .let(d,C,E,_):=R;let(x,G,t,rfl):=hv;show(.int x,d,C,(t,rfl),q i x G ?_ d E);let(k,(x0,l,e0,kl,ek),z0):=u0;rw[G] at e0;cases e0;show(l,kl,λi' m' t0=>?_);let(k',(x',l',e',q0,x2),le,lt):=z0 i' (Ab.mp t0).1;rw[t0] at e';cases e';show(l',q0,'o',λz=>by have:=lt z;lia)
end
def Z98(K:Ae)(H:Hp):Prop:=∀c P,tabIn K "chosen_head"=some #v[c,P]->∃a,H P=some (.tbl a)/\Tri H a
def Zi1{P:Uk}{w:Ul}{K:Ae}{mg mb:Str->Option Uh}{CX:CXT}{k:Nat}{fa a c0 T:Uj}{fd:FuncData}{x:Str}{sp:Sp}{f:Ui}{vs:LW}{I:List Int}
  (KX:K.In f.heap) (U:f.heap.Ns mainGlobals mg) (i:f.heap.Ns builtinsNs mb) (r0:∀x:Str,x≠"__name__"->mb x=bootBuiltins x) (X:f.heap.NoLimit) (hg:f.gens=#[])
  (s0:∃bm B,mg "__builtins__"=↑bm/\bm≠builtinsNs/\f.heap.get? bm=some B/\B.cls= .type "module"/\B.dict=some builtinsNs/\B.data= .plain)
  (ht:tabIn K "chosen_head"=some #v[c0,T]) (t0:noTabs K=true) (hC:CodeHd f.heap c0 T) (M:f.heap.get? T=some (tabObj #[]))
  (O:f.heap.get? a=some {cls:= .type "list",data:= .seq vs.toArray}) (hi:IntsAre vs I) (hl:I.length<=sizeLine) (hr:Room k callerA)
  (F:∀j:Um,K.In j->j.Ns mainGlobals mg->Bs K mg j->FnOk P w K mg j CX k fa fd [x] sp) (L:∀(s:Ui) (u:Uh),BindsTo s fd ([u],[]) [#v[x,u]])
  (u0:∀H:Hp,((∃o,H a=some (.frz o (.lst (I.map V.int))))\/SqL K (λ_=>none) a (I.map V.int))->Z98 K H->sp [.ref a] H (λv _=>v= .bl true) λ_ _ _=>False)
  (q0:∀H e p,CX [] H f (λ_ _ _=>False) e p->False):
  codeAny (model P w) callerA (.call (.ref fa) ([.ref a],[])) (λr p=>r= .ok (.ret (.bool true))/\OldK f.heap p.heap/\p.os=f.os/\AllBare p.gens) f:=by
 have rv:=Wu hi;have R:=hi.length;have A:a≠T:=λz=>by rw[z,M] at O;cases O
 have G:∀H:Hp,((∃o,H a=some (.frz o (.lst (I.map V.int))))\/SqL K (λ_=>none) a (I.map V.int))->H T=some (.tbl #[])->HOk P w H f.heap->(∀b,H b≠none->b=a\/b=T)->(H a≠none->K.lookup a=none)->(∀u,H a=some u->∃o xs,u= .frz o (.lst xs))->
   codeAny (model P w) callerA (.call (.ref fa) ([.ref a],[])) (λr p=>r= .ok (.ret (.bool true))/\OldK f.heap p.heap/\p.os=f.os/\AllBare p.gens) f:=by
  intro H hS Y S hA hK hO;have g:∀{b:Uj} {o:Obj},f.heap.get? b=some o->H b=none->(hidT f.heap H).get? b=some o:=λe n=>Zr3 e n;have J:∀{b:Uj} {o:Obj},f.heap.get? b=some o->o≠{cls:= .type "list",data:= .seq vs.toArray}->o≠tabObj #[]->H b=none:=fun{b o} e d1 d2=>by
   cases q:H b with
   | none=>rfl
   | some u=>
    rcases hA b (by rw[q];simp) with z | z
    .rw[z,O] at e;cases e;show absurd rfl d1
    .rw[z,M] at e;cases e;show absurd rfl d2
  have y:∀{b:Uj} {m:Str->Option Uh},f.heap.Ns b m->(hidT f.heap H).Ns b m:=fun{b m} zz=>by let(o,es,ep,e,d,r):=zz;show(o,es,ep,g e (J e (λz=>by rw[z] at d;cases d) λz=>by rw[z] at d;cases d),d,r)
  have z0:K.In (hidT f.heap H):=λb o e=>g (KX b o e) (by
   cases q:H b with
   | none=>rfl
   | some u=>
    rcases hA b (by rw[q];simp) with z | z
    .subst z;rw[hK (by rw[q];simp)] at e;cases e
    .have E:=KX b o e;rw[z,M] at E;cases E;have h2:=Ia.mp t0 _ (mem_of_lookupK e);show absurd (show false=true from h2) Bf9)
  have hM:Mod K mg (hidT f.heap H):=(z0,y U,(mb,y i,r0),let (mc,h1,h2):=X;(mc,y h1,h2));have hB:Bs K mg (hidT f.heap H):=by
   show(?_,λc P e=>?_)
   .let(bm,B,b1,b2,b3,b4,b5,b6):=s0;show(bm,B,b1,b2,g b3 (J b3 (λz=>by rw[z] at b6;cases b6) λz=>by rw[z] at b6;cases b6),b4,b5,b6)
   .rw[ht] at e;cases e;let(o,w0,y0,tf,N,tg,v0,Q,tt,e1,E,e3,r):=hC;show(o,w0,y0,tf,N,tg,v0,Q,tt,g e1 (J e1 (λz=>by rw[z] at e3;cases e3) λz=>by rw[z] at E;cases E),E,e3,r)
  have e0:Env0 P w K mg (hidT f.heap H) callerA [] f H:=(rfl,hM,λb o e=>Ye3 e,Nat.le_of_eq (Zj3 _ _),trivial,λb i=>absurd (show b∈([]:List Uj) from i) 's',S,.of_eq hg);have tA:Z98 K H:=λc P e=>by rw[ht] at e;cases e;show(#[],Y,Tri.nil H)
  show Kw ((F _ z0 (y U) hB).run callerA [] f H ([.ref a],[]) [.ref a] [.ref a] _ _ hr e0 (L f (.ref a)) (.cons rfl .nil) (u0 H hS tA)) λr p h=>?_;cases r with
  | error e=>show(q0 H e p h).elim
  | ok fl=>
   cases fl with
   | next=>show Dq h
   | brk=>show Dq h
   | cont=>show Dq h
   | ret u=>
    let(v,H',os,x0,un,D,r',q):=h;have q':v= .bl true:=q;subst q';obtain rfl:u=Value.bool true:=r';let(C,hm):=un.tbls T #[] Y;have Z:p.heap.get? T=some (tabObj (#[]++C)):=D T _ hm;have kp:∀b o,b≠T->f.heap.get? b=some o->p.heap.get? b=some o:=λb o i e=>by
     cases q:H b with
     | none=>show un.keep b o e q (by intro z;show absurd (show b∈([]:List Uj) from z) 's') 's'
     | some u=>
      rcases hA b (by rw[q];simp) with z | z
      .subst z;let(B,xs,rfl):=hO u q;have z2:=un.frzs b B _ q;let(e1,_):=S b _ q;let(E,_):=D b _ z2;rw[e] at e1;cases e1;show E
      .show absurd z i
    show(rfl,(λb o e=>?_,λb o e=>?_),os,x0)
    .by_cases i:b=T
     .subst i;rw[M] at e;cases e;show .inr (.inl ((hC.tab M).isCodeTable,rfl,#[],C,rfl,Z))
     .show .inl (kp b o i e)
    .by_cases i:b=T
     .subst i;show(_,Z)
     .exact(o,kp b o i e)
 cases hk:K.lookup a with
 | some o=>
  have e:=KX a o hk;rw[O] at e;cases e;show G (λb=>if b=T then some (.tbl #[]) else none) (.inr (.inr (_,vs.toArray,_,hk,rfl,rfl,rfl,by rw[Aq,R];show hl,↥rv))) (ng rfl) (λb u z=>?_) (λb z=>?_) (λz=>absurd (nc A) z) λu z=>?_
  .by_cases i:b=T
   .have l:=(ng i).symm.trans z;cases l;subst i;show M
   .have l:=(nc i).symm.trans z;cases l
  .by_cases i:b=T
   .show .inr i
   .show absurd (nc i) z
  .have l:=(nc A).symm.trans z;cases l
 | none=>
  show G (λb=>if b=T then some (.tbl #[]) else if b=a then some (.frz {cls:= .type "list",data:= .seq vs.toArray} (.lst (I.map V.int))) else none) (.inl ({cls:= .type "list",data:= .seq vs.toArray},(nc A).trans (ng rfl))) (ng rfl) (λb u z=>?_) (λb z=>?_) (λ_=>hk) λu z=>?_
  .by_cases i:b=T
   .have l:=(ng i).symm.trans z;cases l;subst i;show M
   .have z1:=(nc i).symm.trans z;by_cases t:b=a
    .have l:=(ng t).symm.trans z1;cases l;subst t;show(O,by rw[Ai];show hl,vs,_,rv,O)
    .have l:=(nc t).symm.trans z1;cases l
  .by_cases i:b=T
   .show .inr i
   .by_cases t:b=a
    .show .inl t
    .show absurd ((nc i).trans (nc t)) z
  .have l:=((nc A).trans (ng rfl)).symm.trans z;cases l;show(_,_,rfl)
end L2
namespace U
open PySem PySem.Spec PyProof.Rows L2 L3
inductive D where
 | non | bl (b:Bool) | int (i:Int) | str (x:Str) | tup (ds:List D) | ref (n:Nat) | ty (n:String) | gtup (ds:List D) | cls (a:Uj) | exn (e C dx:Uj) (row:D)
inductive Cell where
 | lst (ds:List D) | frz (ds:List D) | dct (kvs:List (Key×D)) | fdc (kvs:List (Key×D))
abbrev LD:=List D
abbrev KQ9:=List (Key×D)
abbrev Z2:=List Cell
abbrev DEnv:=List (Option D)
abbrev DK:=D->Z2->Prop
abbrev DX:=Uj->D->Z2->Prop
abbrev DE:=DEnv->Z2->DK->Prop
abbrev DA:=DEnv->Z2->(LD->Z2->Prop)->Prop
abbrev DT:=DEnv->Z2->(Bool->Z2->Prop)->Prop
abbrev DSp:=LD->Z2->DK->DX->Prop
structure DEnds where
 nx:DEnv->Z2->Prop
 rt:DK
 bk:DEnv->Z2->Prop:=λ_ _=>False
 ct:DEnv->Z2->Prop:=λ_ _=>False
abbrev DS:=DEnds->DEnv->Z2->Prop
structure Vw where
 K:Ae
 H:Hp
 μ:Nat->Uj
 n:Nat
mutual
def RD(w:Vw):D->V->Prop
 | .non,v=>v= .non
 | .bl b,v=>v= .bl b
 | .int i,v=>v= .int i
 | .str x,v=>v= .str x
 | .tup f,v=>∃a c,v= .ref a/\w.H a=some (.tup c)/\RDs w f c
 | .ref i,v=>i<w.n/\v= .ref (w.μ i)
 | .ty n,v=>v= .ty n
 | .gtup f,v=>∃a c,v= .ref a/\SqT w.K w.H a c/\RDs w f c
 | .cls a,v=>v= .ref a
 | .exn e C g d,v=>v= .ref e/\w.H e=some (XO e (.ref C) (some g))/\∃r,w.H g=some (.xd [#v["row",r]])/\RD w d r
def RDs(w:Vw):LD->LV->Prop
 | [],a=>a=[]
 | d::b,a=>∃v r,a=v::r/\RD w d v/\RDs w b r
end
def RKV(w:Vw):KQ9->List (Key×V)->Prop
 | [],a=>a=[]
 |#v[k,d]::b,a=>∃v r,a=#v[k,v]::r/\RD w d v/\RKV w b r
def SqF(K:Ae)(H:Hp)(a:Uj)(vs:LV):Prop:=(∃o,H a=some (.frz o (.lst vs)))\/SqL K (λ_=>none) a vs
def Cell.mut:Cell->Bool
 | .frz _=>false
 | _=>true
def Pk(w:Vw):Cell->Uj->Prop
 | .lst d,a=>∃b,w.H a=some (.lst b)/\RDs w d b
 | .frz d,a=>∃b,SqF w.K w.H a b/\RDs w d b
 | .dct c,a=>∃b,w.H a=some (.dK b)/\RKV w c b
 | .fdc c,a=>∃o b,w.H a=some (.frz o (.dK b))/\RKV w c b
structure RS(w:Vw)(M:Z2):Prop where
 len:w.n=M.length
 inj:∀(i j:Nat) (ci cj:Cell),M[i]?=some ci->M[j]?=some cj->ci.mut=true->cj.mut=true->w.μ i=w.μ j->i=j
 cell:∀i c,M[i]?=some c->Pk w c (w.μ i)
 tab:Z98 w.K w.H
def Tb:HO->Bool
 | .tbl _ | .ext _=>true
 | _=>false
def Q5{K:Ae}{H H':Hp}(x:Z98 K H)(k:∀b o,H b=some o->Tb o=true->H' b=some o):Z98 K H':=λc P e=>by let(a,f,d):=x c P e;show(a,k _ _ f rfl,d.keep λc q=>k _ _ q rfl)
def Imm:HO->Bool
 | .tup _ | .xd _ | .ext _ | .frz _ _=>true
 | _=>false
structure Ext(w w':Vw):Prop where
 K:w'.K=w.K
 n:w.n<=w'.n
 μ:∀i,i<w.n->w'.μ i=w.μ i
 imm:∀a o,w.H a=some o->Imm o=true->w'.H a=some o
def Ext.refl(w:Vw):Ext w w:=(rfl,na _,λ_ _=>rfl,λ_ _ h _=>h)
def Ext.trans{a b c:Vw}(x:Ext a b)(y:Ext b c):Ext a c:=
 (y.K.trans x.K,ni x.n y.n,λi h=>(y.μ i (nh h x.n)).trans (x.μ i h),λp o h q=>y.imm p o (x.imm p o h q) q)
def Ext.sqT{w b:Vw}(x:Ext w b){a:Uj}(h:SqT w.K w.H a vs):SqT b.K b.H a vs:=by
 rw[x.K];rcases h with(h|⟨o,h⟩)|h
 .show .inl (.inl (x.imm _ _ h rfl))
 .show .inl (.inr (o,x.imm _ _ h rfl))
 .show .inr h
structure Ext0(w w':Vw):Prop where
 K:w'.K=w.K
 n:w.n<=w'.n
 μ:∀i,i<w.n->w'.μ i=w.μ i
 imm:∀a o,w.H a=some o->Imm o=true->(∀ob kvs,o≠ .frz ob (.dK kvs))->w'.H a=some o
mutual
theorem RD.ext0{w f:Vw}(x:Ext0 w f):∀{d:D} {v:V},RD w d v->RD f d v
 | .non,v,h=>h
 | .bl b,v,h=>h
 | .int i,v,h=>h
 | .str _,v,h=>h
 | .tup m,v,h=>by unfold RD at *;let(a,c,e,q,r):=h;show(a,c,e,x.imm _ _ q rfl (λ_ _ z=>by cases z),RDs.ext0 x r)
 | .ref i,v,h=>by unfold RD at *;show(nh h.1 x.n,by rw[x.μ i h.1];show h.2)
 | .ty n,v,h=>h
 | .gtup m,v,h=>by
  unfold RD at *;let(a,c,e,q,r):=h;show(a,c,e,?_,RDs.ext0 x r);rw[x.K];rcases q with(h|⟨o,h⟩)|h
  .show .inl (.inl (x.imm _ _ h rfl (λ_ _ z=>by cases z)))
  .show .inl (.inr (o,x.imm _ _ h rfl (λ_ _ z=>by cases z)))
  .show .inr h
 | .cls a,v,h=>h
 | .exn e C p g,v,h=>by unfold RD at *;let(l,q,r,k,j):=h;show(l,x.imm _ _ q rfl (λ_ _ z=>by cases z),r,x.imm _ _ k rfl (λ_ _ z=>by cases z),RD.ext0 x j)
theorem RDs.ext0{w b:Vw}(x:Ext0 w b):∀{a:LD} {vs:LV},RDs w a vs->RDs b a vs
 | [],vs,h=>h
 | d::a,vs,h=>by unfold RDs at *;let(v,r,e,f,c):=h;show(v,r,e,RD.ext0 x f,RDs.ext0 x c)
end
theorem RKV.ext0{w b:Vw}(x:Ext0 w b):∀{a:KQ9} {vs:List (Key×V)},RKV w a vs->RKV b a vs
 | [],vs,h=>h
 |#v[k,d]::a,vs,h=>by unfold RKV at *;let(v,r,e,f,c):=h;show(v,r,e,RD.ext0 x f,RKV.ext0 x c)
def Ext.z{w f:Vw}(x:Ext w f):Ext0 w f:=(x.K,x.n,x.μ,λa o h q _=>x.imm a o h q)
def RD.ext{w f:Vw}(x:Ext w f){d:D}{v:V}(h:RD w d v):RD f d v:=RD.ext0 x.z h
def RDs.ext{w f:Vw}(x:Ext w f){d:LD}{v:LV}(h:RDs w d v):RDs f d v:=RDs.ext0 x.z h
def RKV.ext{w f:Vw}(x:Ext w f){d:KQ9}{v:List (Key×V)}(h:RKV w d v):RKV f d v:=RKV.ext0 x.z h
def RDs.nil(w:Vw):RDs w [] []:=by ext RDs;rfl
def RDs.cons{w:Vw}{d:D}{v:V}{a:LD}{vs:LV}(h:RD w d v)(r:RDs w a vs):RDs w (d::a) (v::vs):=by ext RDs;show(v,vs,rfl,h,r)
def RDs.length{w:Vw}:∀{a:LD} {vs:LV},RDs w a vs->vs.length=a.length
 | [],vs,h=>by ext h RDs;subst h;rfl
 | d::a,vs,h=>by ext h RDs;let(v,r,rfl,_,b):=h;simp[b.length]
def RDs.get{w:Vw}:∀{a:LD} {vs:LV} {i:Nat} {d:D},RDs w a vs->a[i]?=some d->∃v,vs[i]?=some v/\RD w d v
 | [],vs,i,d,h,e=>by simp at e
 | d::a,vs,i,f,h,e=>by
  ext h RDs;let(v,r,rfl,c,b):=h;cases i with
  | zero=>simp at e;subst e;show(v,rfl,c)
  | succ i=>simpa using RDs.get b ↥e
def RDs.append{w:Vw}:∀{a es:LD} {vs us:LV},RDs w a vs->RDs w es us->RDs w (a++es) (vs++us)
 | [],es,vs,us,h,g=>by ext h RDs;subst h;show g
 | d::a,es,vs,us,h,g=>by ext h RDs;let(v,r,rfl,c,b):=h;show RDs.cons c (RDs.append b g)
def RDs.take{w:Vw}:∀{a:LD} {vs:LV} (n:Nat),RDs w a vs->RDs w (a.take n) (vs.take n)
 | _,_,0,_=>by simp[RDs.nil]
 | [],vs,n+1,h=>by ext h RDs;subst h;simp[RDs.nil]
 | d::a,vs,n+1,h=>by ext h RDs;let(v,r,rfl,c,b):=h;show RDs.cons c (RDs.take n b)
def RDs.drop{w:Vw}:∀{a:LD} {vs:LV} (n:Nat),RDs w a vs->RDs w (a.drop n) (vs.drop n)
 | _,_,0,h=>by simpa using h
 | [],vs,n+1,h=>by ext h RDs;subst h;simp[RDs.nil]
 | d::a,vs,n+1,h=>by ext h RDs;let(v,r,rfl,c,b):=h;simpa using RDs.drop n b
def RDs.set{w:Vw}{d:D}{v:V}(q:RD w d v):∀{a:LD} {vs:LV} (n:Nat),RDs w a vs->RDs w (a.set n d) (vs.set n v)
 | [],vs,n,h=>by ext h RDs;subst h;simp[RDs.nil]
 | d::a,vs,0,h=>by ext h RDs;let(v,r,rfl,c,b):=h;show RDs.cons q b
 | d::a,vs,n+1,h=>by ext h RDs;let(v,r,rfl,c,b):=h;show RDs.cons c (RDs.set q n b)
def RDs.reverse{w:Vw}:∀{a:LD} {vs:LV},RDs w a vs->RDs w a.reverse vs.reverse
 | [],vs,h=>by ext h RDs;subst h;simp[RDs.nil]
 | d::a,vs,h=>by ext h RDs;let(v,r,rfl,c,b):=h;erw[List.reverse_cons];show(RDs.reverse b).append (RDs.cons c (RDs.nil w))
def Vw.push(w:Vw)(a:Uj)(o:HO):Vw:=(w.K,upd w.H a o,λi=>if i=w.n then a else w.μ i,w.n+1)
def Vw.alloc(w:Vw)(a:Uj)(o:HO):Vw:={w with H:=upd w.H a o}
def Xa{w:Vw}{a:Uj}{o:HO}(h:w.H a=none):Ext w (w.alloc a o):=
 (rfl,na _,λ_ _=>rfl,λb u q _=>by
  change upd w.H a o b=some u;rw[Z6 (by rintro rfl;rw[h] at q;cases q)];show q)
def Tt{w:Vw}{a:Uj}{o:HO}(h:w.H a=none):Ext w (w.push a o):=
 (rfl,mn _,λi c=>by show(if i=w.n then a else w.μ i)=_;rw[nc 'o'],λb u q _=>by
  change upd w.H a o b=some u;rw[Z6 (by rintro rfl;rw[h] at q;cases q)];show q)
def SqF.stay{w b:Vw}{a:Uj}(x:Ext w b)(h:SqF w.K w.H a vs):SqF b.K b.H a vs:=by
 rcases h with⟨o,h⟩|h
 .show .inl (o,x.imm _ _ h rfl)
 .rw[x.K];show .inr h
def SqF.sq{K:Ae}{H:Hp}{a:Uj}(h:SqF K H a vs):SqL K H a vs:=by
 rcases h with⟨o,h⟩|(h|⟨o,h⟩)|h
 .show .inl (.inr (o,h))
 .cases h
 .cases h
 .show .inr h
def Pk.some{w:Vw}{c:Cell}{a:Uj}(e:c.mut=true)(h:Pk w c a):∃o,w.H a=some o:=by
 cases c with
 | lst b=>let(d,q,_):=h;show(_,q)
 | frz b=>cases e
 | dct b=>let(d,q,_):=h;show(_,q)
 | fdc b=>let(o,d,q,_):=h;show(_,q)
def Pk.stay{w d:Vw}{c:Cell}{a:Uj}(x:Ext w d)(h:Pk w c a)(k:c.mut=true->d.H a=w.H a):Pk d c a:=by
 cases c with
 | lst e=>let(b,q,r):=h;show(b,(k rfl).trans q,r.ext x)
 | frz e=>let(b,q,r):=h;show(b,q.stay x,r.ext x)
 | dct e=>let(b,q,r):=h;show(b,(k rfl).trans q,r.ext x)
 | fdc e=>let(o,b,q,r):=h;show(o,b,(k rfl).trans q,r.ext x)
def RS.alloc{w:Vw}{a:Uj}{o:HO}(R:RS w M)(h:w.H a=none):RS (w.alloc a o) M:=
 (R.len,R.inj,λi c e=>by
  have q:=R.cell i c e;show q.stay (Xa h) λf=>?_;let(u,d):=q.some f;show Z6 (λz=>by have z:w.μ i=a:=z;rw[z,h] at d;cases d),Q5 R.tab λb o e _=>(Z6 (Zn e h)).trans e)
def O4{w:Vw}{c:Cell}{a:Uj}{o:HO}(h:Pk w c a)(f:c.mut=true)(e:w.H a=some o):Tb o=false:=by
 cases c with
 | lst b=>let(d,q,_):=h;rw[e] at q;cases q;rfl
 | frz b=>cases f
 | dct b=>let(d,q,_):=h;rw[e] at q;cases q;rfl
 | fdc b=>let(_,d,q,_):=h;rw[e] at q;cases q;rfl
def RS.push{w:Vw}{a:Uj}{o:HO}{c:Cell}(R:RS w M)(h:w.H a=none)(t:Pk (w.push a o) c a):RS (w.push a o) (M++[c]):=by
 have g:∀(i:Nat) (d:Cell),(M++[c])[i]?=some d->(i=w.n/\d=c)\/(i<w.n/\M[i]?=some d):=λi d e=>by
  by_cases B:i<M.length
  .rw[De B] at e;show .inr (by rw[R.len];show B,e)
  .rw[Dg 'o'] at e;have D:i - M.length=0:=by have:=(Ab.mp e).1;simp at this;lia
   rw[D] at e;simp at e;show .inl (by rw[R.len];lia,e.symm)
 have s:∀(i:Nat) (d:Cell),M[i]?=some d->d.mut=true->w.μ i≠a:=λi d e v z=>by let(u,A):=(R.cell i d e).some v;rw[z,h] at A;cases A
 show(by change w.n+1=_;rw[R.len];simp,λi j d p E C y x e=>?_,λi r e=>?_,Q5 R.tab λb o e _=>(Z6 (Zn e h)).trans e)
 .change (if i=w.n then a else w.μ i)=(if j=w.n then a else w.μ j) at e;rcases g i d E with⟨l,_⟩|⟨l,f⟩
  .rcases g j p C with⟨m,_⟩|⟨m,k⟩
   .lia
   .rw[ng l,nc 'o'] at e;show absurd e.symm (s j p k x)
  .rcases g j p C with⟨m,_⟩|⟨m,k⟩
   .rw[nc 'o',ng m] at e;show absurd e (s i d f y)
   .rw[nc 'o',nc 'o'] at e;show R.inj i j d p f k y x e
 .change Pk _ r (if i=w.n then a else w.μ i);rcases g i r e with⟨l,rfl⟩|⟨l,f⟩
  .rw[ng l];show t
  .rw[nc 'o'];have q:=R.cell i r f;show q.stay (Tt h) λv=>Z6 (s i r f v)
def Yv{w:Vw}{a:Uj}{u o:HO}(h:w.H a=some u)(c:Imm u=false):Ext w (w.alloc a o):=
 (rfl,na _,λ_ _=>rfl,λb v q z=>by
  change upd w.H a o b=some v;rw[Z6 (by rintro rfl;rw[h] at q;cases q;rw[c] at z;cases z)];show q)
def RS.write{w:Vw}{i:Nat}{u o:HO}{c0 c:Cell}(R:RS w M)(h0:M[i]?=some c0)(s:c0.mut=true)(L:c.mut=true)(h:w.H (w.μ i)=some u)(E:Imm u=false)(l:Pk (w.alloc (w.μ i) o) c (w.μ i)):RS (w.alloc (w.μ i) o) (M.set i c):=by
 have F:i<M.length:=(Ab.mp h0).1;have f:∀(j:Nat) (k:Cell),(M.set i c)[j]?=some k->k.mut=true->∃g,M[j]?=some g/\g.mut=true:=λj k e m=>by
  by_cases d:j=i
  .subst d;show(c0,h0,s)
  .rw[Dk (Il d)] at e;show(k,e,m)
 show(by change w.n=_;rw[R.len];simp,λa b K J I G D C e=>?_,λj B e=>?_,Q5 R.tab λb o e t=>(Z6 λz=>?_).trans e)
 .let(A,x,r):=f a K I D;let(y,v,p):=f b J G C;show R.inj a b A y x v r p e
 .by_cases d:j=i
  .subst d;rw[Ds F] at e;cases e;show l
  .rw[Dk (Il d)] at e;have q:=R.cell j B e;show q.stay (Yv h E) λm=>Z6 (λz=>d (R.inj j i B c0 e h0 m s z))
 .have z:b=w.μ i:=z;subst z;rw[O4 (R.cell i c0 h0) s e] at t;cases t
def F8{w:Vw}{a:Uj}{o:Obj}(h:w.H a=some (.frz o (.dK vs))):Ext0 w (w.alloc a u):=
 (rfl,na _,λ_ _=>rfl,λb v q _ n=>by
  change upd w.H a u b=some v;rw[Z6 (by rintro rfl;rw[h] at q;cases q;show n _ _ rfl)];show q)
def RS.thaw{w:Vw}{i:Nat}{o:Obj}(R:RS w M)(h0:M[i]?=some (.fdc kvs))(h:w.H (w.μ i)=some (.frz o (.dK vs)))(r:RKV w kvs vs):RS (w.alloc (w.μ i) (.dK vs)) (M.set i (.dct kvs)):=by
 have I:i<M.length:=(Ab.mp h0).1;have x:=F8 (u:= .dK vs) h;have f:∀(j:Nat) (k:Cell),(M.set i (.dct kvs))[j]?=some k->k.mut=true->∃g,M[j]?=some g/\g.mut=true:=λj k e p=>by
  by_cases d:j=i
  .subst d;show(_,h0,rfl)
  .rw[Dk (Il d)] at e;show(k,e,p)
 show(by change w.n=_;rw[R.len];simp,λa b N L K J G F e=>?_,λj l e=>?_,Q5 R.tab λb o e t=>(Z6 λz=>?_).trans e)
 .let(E,A,v):=f a N K G;let(C,y,s):=f b L J F;show R.inj a b E C A y v s e
 .by_cases d:j=i
  .subst d;rw[Ds I] at e;cases e;show(vs,Zc,r.ext0 x)
  .rw[Dk (Il d)] at e;have q:=R.cell j l e;have m:l.mut=true->w.μ j≠w.μ i:=λp z=>d (R.inj j i l _ e h0 p rfl z);cases l with
   | lst B=>let(c,q,r):=q;show(c,(Z6 (m rfl)).trans q,r.ext0 x)
   | dct B=>let(c,q,r):=q;show(c,(Z6 (m rfl)).trans q,r.ext0 x)
   | fdc B=>let(o,c,q,r):=q;show(o,c,(Z6 (m rfl)).trans q,r.ext0 x)
   | frz B=>
    let(c,q,r):=q;show(c,?_,r.ext0 x);rcases q with⟨o,q⟩|q
    .show .inl (o,x.imm _ _ q rfl (λ_ _ z=>by cases z))
    .show .inr q
 .have z:b=w.μ i:=z;subst z;rw[h] at e;cases e;cases t
def Zu7{w1 c:Vw}{a:Uj}{u f o:HO}(h:w1.H a=some u)(e:Imm u=false)(x:Ext (w1.alloc a f) c):Ext w1 (c.alloc a o):=
 (x.K,x.n,x.μ,λb v q z=>by
  have d:b≠a:=by rintro rfl;rw[h] at q;cases q;rw[e] at z;cases z
  change upd c.H a o b=some v;rw[Z6 d];show x.imm b v ((Z6 d).trans q) z)
inductive Op where
 | add | sub | mul | fdiv | mod | pow
 deriving DecidableEq
inductive Cm where
 | lt | le | gt | ge | eq | ne | is | isnot | isin | notin
 deriving DecidableEq
inductive Bf where
 | len | isinst | min2 | max2 | list1 | tuple1 | dict1 | sortedL
 deriving DecidableEq
inductive Mt where
 | append | get2 | pop0 | clear | reverse | index1 | extend
 deriving DecidableEq
inductive Ty where
 | int | str | bool | list | tuple | dict | valueError
 deriving DecidableEq
def Yw:Ty->String
 | .int=>"int" | .str=>"str" | .bool=>"bool" | .list=>"list" | .tuple=>"tuple" | .dict=>"dict" | .valueError=>"ValueError"
mutual
inductive E where
 | var (i:Nat) | int (i:Int) | bl (b:Bool) | non | str (x:Str) | ty (x:Ty) | glb (k:Nat)
 | bin (op:Op) (a b:E) | neg (a:E) | not (a:E) | cmp (op:Cm) (a b:E) | bop (isAnd:Bool) (es:Es)
 | lst (es:Es) | tup (es:Es) | dict0 | lkeys (a:E) | lrng (a:E) | dct (a b:E) | ix (a b:E) | sl (a:E) (lo hi:Eo)
 | call (f:Nat) (es:Es) | bf (b:Bf) (es:Es) | mt (m:Mt) (o:E) (es:Es)
 | comp (N':LS) (js:List (Option Nat)) (tg:LQ) (it:It) (cd:Eo) (e:E)
 | compQ (N':LS) (js:List (Option Nat)) (tg:LQ) (d q e:E)
 | compK (N':LS) (js:List (Option Nat)) (tg:LQ) (d e:E)
 | rev (a:E) | setf (b:Bool) (a:E) | slW (a:E) (lo hi:Eo)
inductive Es where
 | nil | cons (e:E) (r:Es)
inductive Eo where
 | no | yes (e:E)
inductive It where
 | seq (e:E) | rng1 (a:E) | enm (e:E)
end
inductive Tk where
 | drop | ret | set (j:Nat)
mutual
inductive S where
 | cont | ret (e:E) | expr (e:E)
 | set (tg:LQ) (e:E)
 | put (o i v:E)
 | ite (c:E) (a b:Ss) | for_ (tg:LQ) (it:It) (b:Ss) | forK (tg:LQ) (e:E) (b:Ss) | while_ (c:E) (b:Ss)
 | raise (k:Nat) (es:Es)
 | tryN (h:Tk) (f:Nat) (es:Es) (g:Nat) (s:Ss)
inductive Ss where
 | nil | cons (s:S) (r:Ss)
end
noncomputable def readL(M:Z2)(n:Nat):Option (LD):=match M[n]? with
 | some (.lst a)=>some a
 | some (.frz a)=>some a
 | _=>none
def Zh(M:Z2)(n:Nat):Option (LD):=match M[n]? with
 | some (.lst a)=>some a
 | _=>none
def Y7(M:Z2)(n:Nat):Option (KQ9):=match M[n]? with
 | some (.dct a)=>some a
 | _=>none
def Cb(M:Z2)(n:Nat):Option (KQ9):=match M[n]? with
 | some (.dct a)=>some a
 | some (.fdc a)=>some a
 | _=>none
def valD(kvs:KQ9)(k:Key):Option D:=(kvs.find? λa=>decide (a.1=k)).map (·.2)
def putD(kvs:KQ9)(k:Key)(v:D):KQ9:=
 if (kvs.any λa=>decide (a.1=k))=true then kvs.map (λa=>if a.1=k then#v[a.1,v] else a) else kvs++[#v[k,v]]
def keyD:D->Option Key
 | .int i=>some (.inl i)
 | .str x=>some (.inr x)
 | _=>none
def kD:Key->D
 | .inl i=> .int i
 | .inr x=> .str x
def Ys(ps:KQ9):LD:=ps.map λp=> .tup [kD p.1,p.2]
def Su(ps:KQ9):KQ9:=ps.foldl (λm p=>putD m p.1 p.2) []
def qdiv(i j:Int):Int:=if 0<j then i / j else i.fdiv j
def qmod(i j:Int):Int:=if 0<j then i % j else i.fmod j
def Yc0(i j:Int):i.fdiv j=qdiv i j:=by
 ext qdiv;split
 .show Int.fdiv_eq_ediv_of_nonneg _ 'o'
 .rfl
def Yb8(i j:Int):i.fmod j=qmod i j:=by
 ext qmod;split
 .show Int.fmod_eq_emod_of_nonneg _ 'o'
 .rfl
def Zy3{i j:Int}(h:0<j):qdiv i j=i / j:=ng h
def Zu4{i j:Int}(h:0<j):qmod i j=i % j:=ng h
def Gi(x:D)(F:Int->Prop):Prop:=match x with
 | .int i=>F i
 | _=>False
def Si(x:D)(F:Nat->Prop):Prop:=match x with
 | .ref n=>F n
 | _=>False
def Y61(x:D)(F:LD->Prop):Prop:=match x with
 | .tup l=>F l
 | _=>False
def Qe(x y:D)(F:Int->Int->Prop):Prop:=Gi x λi=>Gi y λj=>F i j
def at0(l:LD)(P:Prop):Prop:=match l with
 | []=>P
 | _::_=>False
def at1(l:LD)(F:D->Prop):Prop:=match l with
 | []=>False
 | a::r=>at0 r (F a)
def at2(l:LD)(F:D->D->Prop):Prop:=match l with
 | []=>False
 | a::r=>at1 r (F a)
def Xu{x:D}(h:Gi x F):∃i,x= .int i/\F i:=by
 cases x with
 | int i=>show(i,rfl,h)
 | _=>show Dq h
def Y4{x:D}(h:Si x F):∃n,x= .ref n/\F n:=by
 cases x with
 | ref n=>show(n,rfl,h)
 | _=>show Dq h
def F5{x:D}(h:Y61 x F):∃l,x= .tup l/\F l:=by
 cases x with
 | tup l=>show(l,rfl,h)
 | _=>show Dq h
def Yg{x y:D}(h:Qe x y F):∃i j,x= .int i/\y= .int j/\F i j:=by let(i,rfl,b):=Xu h;let(j,rfl,a):=Xu b;show(i,j,rfl,rfl,a)
def G2(h:at0 l P):l=[]/\P:=by
 cases l with
 | nil=>show(rfl,h)
 | cons _ _=>show Dq h
def W8(h:at1 l F):∃a,l=[a]/\F a:=by
 cases l with
 | nil=>show Dq h
 | cons a r=>let(rfl,b):=G2 h;show(a,rfl,b)
def Jp(h:at2 l F):∃a b,l=[a,b]/\F a b:=by
 cases l with
 | nil=>show Dq h
 | cons a r=>let(b,rfl,c):=W8 h;show(a,b,rfl,c)
def addD(x y:D)(M:Z2)(Q:DK):Prop:=match x with
 | .int i=>Gi y λj=>Q (.int (i+j)) M
 | .str a=>match y with
  | .str b=>a.length+b.length<=sizeLine/\Q (.str (a++b)) M
  | _=>False
 | .tup a=>Y61 y λb=>a≠[]/\a.length+b.length<=sizeLine/\Q (.tup (a++b)) M
 | .ref a=>Si y λb=>∃d c,Zh M a=some d/\Zh M b=some c/\d.length+c.length<=sizeLine/\Q (.ref M.length) (M++[.lst (d++c)])
 | _=>False
def mulD(x y:D)(M:Z2)(Q:DK):Prop:=match x with
 | .int i=>Gi y λj=>IntMulOk i j/\Q (.int (i * j)) M
 | .ref a=>Gi y λk=>∃b,Zh M a=some b/\0<=k/\k<2 ^ 62/\b.length * k.toNat<=sizeLine/\Q (.ref M.length) (M++[.lst (Hn k.toNat b).flatten])
 | _=>False
def opD(op:Op)(x y:D)(M:Z2)(Q:DK):Prop:=match op with
 | .add=>addD x y M Q
 | .mul=>mulD x y M Q
 | .sub=>Qe x y λi j=>Q (.int (i - j)) M
 | .fdiv=>Qe x y λi j=>Z60 i j/\Q (.int (qdiv i j)) M
 | .mod=>Qe x y λi j=>j≠0/\Q (.int (qmod i j)) M
 | .pow=>Qe x y λi j=>CPow i j/\Q (.int (i ^ j.toNat)) M
mutual
def PD(M:Z2):PyData->D->Prop
 | .none,d=>d= .non
 | .bool b,d=>d= .bl b
 | .int i,d=>d= .int i
 | .str x,d=>d= .str x
 | .list c,d=>∃n a,d= .ref n/\readL M n=some a/\PDs M c a
 | .tuple c,d=>∃a,d= .tup a/\PDs M c a
 | .dict _,_=>False
def PDs(M:Z2):List PyData->LD->Prop
 | [],a=>a=[]
 | x::b,a=>∃d r,a=d::r/\PD M x d/\PDs M b r
end
noncomputable def Zv:D->Bool
 | .non | .bl _ | .int _ | .str _=>true
 | _=>false
def eqF:D->D->Bool
 | .non,.non=>true
 | .bl a,.bl b=>a==b
 | .bl a,.int b=>(if a then 1 else 0)==b
 | .int a,.bl b=>a==(if b then 1 else 0)
 | .int a,.int b=>a==b
 | .str a,.str b=>a==b
 | _,_=>false
def eqFs(xs ys:LD):Bool:=(Aj (min xs.length ys.length)).all (λj=>eqF (xs.getD j .non) (ys.getD j .non))&&xs.length==ys.length
def inD(x:D)(xs:LD):Bool:=xs.any λy=>eqF y x
def eqKV(a b:KQ9):Bool:=a.length==b.length&&a.all λc=>match valD b c.1 with
 | some y=>eqF c.2 y
 | none=>false
def eqS(x y:D):Option Bool:=match x with
 | .int i=>match y with
  | .int j=>some (decide (i=j))
  | .str _=>some false
  | .non=>some false
  | _=>none
 | .str i=>match y with
  | .str j=>some (decide (i=j))
  | .int _=>some false
  | .non=>some false
  | .bl _=>some false
  | _=>none
 | .bl i=>match y with
  | .bl j=>some (decide (i=j))
  | .non=>some false
  | .str _=>some false
  | _=>none
 | .non=>match y with
  | .non=>some true
  | .int _=>some false
  | .bl _=>some false
  | .str _=>some false
  | _=>none
 | _=>none
def eqD(M:Z2)(x y:D)(Q:Bool->Prop):Prop:=match eqS x y with
 | some b=>Q b
 | none=>(∃f e,PD M f x/\PD M e y/\f.canLay0=true/\e.canLay0=true/\min f.depth e.depth<=60/\Q (PyData.eqv f e))\/
   (∃m n a b,x= .ref m/\y= .ref n/\Y7 M m=some a/\Y7 M n=some b/\(a.all λg=>Zv g.2)=true/\(b.all λg=>Zv g.2)=true/\Q (eqKV a b))\/(∃m n c,x= .ref m/\y= .ref n/\readL M m=some c/\readL M n=some []/\Q c.isEmpty)\/(∃c d,(x= .tup c\/x= .gtup c)/\(y= .tup d\/y= .gtup d)/\c.all Zv=true/\d.all Zv=true/\Q (eqFs c d))
def B3(M:Z2):D->Option (LD)
 | .ref n=>readL M n
 | .tup a=>some a
 | .gtup a=>some a
 | _=>none
def inQ(M:Z2):D->D->(Bool->Prop)->Prop
 | .str a,.str b,Q=>Q (!(Ml b a 0 b.length 1).isEmpty)
 | x,.ref n,Q=>(∃c,readL M n=some c/\Zv x=true/\c.all Zv=true/\Q (inD x c))\/(∃d k,Y7 M n=some d/\keyD x=some k/\Q (valD d k).isSome)\/(∃(f:LD) (c:List (LD)),x= .tup f/\readL M n=some (c.map .tup)/\f.all Zv=true/\(c.all λe=>e.all Zv)=true/\Q (c.any λe=>eqFs e f))\/(∃d k,M[n]?=some (.fdc d)/\keyD x=some k/\Q (valD d k).isSome)
 | x,.tup c,Q=>Zv x=true/\c.all Zv=true/\Q (inD x c)
 | x,.gtup c,Q=>Zv x=true/\c.all Zv=true/\Q (inD x c)
 | _,_,_=>False
def nonD(x y:D)(Q:Bool->Prop):Prop:=match y with
 | .non=>match x with
  | .non=>Q true
  | .bl _=>Q false
  | .int _=>Q false
  | .str _=>Q false
  | .tup _=>Q false
  | .ref _=>Q false
  | .exn _ _ _ _=>Q false
  | _=>False
 | _=>False
def cmD(M:Z2)(op:Cm)(x y:D)(Q:Bool->Prop):Prop:=match op with
 | .lt=>Qe x y λi j=>Q (decide (i<j))
 | .le=>Qe x y λi j=>Q (decide (i<=j))
 | .gt=>Qe x y λi j=>Q (decide (j<i))
 | .ge=>Qe x y λi j=>Q (decide (j<=i))
 | .eq=>eqD M x y Q
 | .ne=>eqD M x y λb=>Q (!b)
 | .is=>nonD x y Q
 | .isnot=>nonD x y λb=>Q (!b)
 | .isin=>inQ M x y Q
 | .notin=>inQ M x y λb=>Q (!b)
def truD(M:Z2):D->(Bool->Prop)->Prop
 | .non,Q=>Q false
 | .bl b,Q=>Q b
 | .int i,Q=>Q (i !=0)
 | .str x,Q=>x.length<=sizeLine/\Q ((x.length:Int) !=0)
 | .tup a,Q=>Q (!a.isEmpty)
 | .ref n,Q=>(∃a,readL M n=some a/\Q (!a.isEmpty))\/(∃a,Y7 M n=some a/\Q (!a.isEmpty))
 | _,_=>False
def ixD(M:Z2):D->D->(D->Prop)->Prop
 | .ref n,k,Q=>(∃a i d,k= .int i/\readL M n=some a/\atI a i=some d/\Q d)\/(∃b y d,Cb M n=some b/\keyD k=some y/\valD b y=some d/\Q d)
 | .tup a,.int i,Q=>∃d,atI a i=some d/\Q d
 | .gtup a,.int i,Q=>∃d,atI a i=some d/\Q d
 | .str z,.int i,Q=>z.length<=sizeLine/\∃c,atI z.cps.toList i=some c/\Q (.str ⟨#[c]⟩)
 | _,_,_=>False
def cutD{a:Type}(xs:List a)(lo hi:Option Int):List a:=(xs.drop (HT.sIx xs.length 0 lo)).take (HT.sIx xs.length xs.length hi - HT.sIx xs.length 0 lo)
def slD:D->Option Int->Option Int->Z2->DK->Prop
 | .str z,b,c,M,Q=>z.length<=sizeLine/\Q (.str (Txt.slice z b c)) M
 | .ref n,b,c,M,Q=>∃a,readL M n=some a/\Q (.ref M.length) (M++[.lst (cutD a b c)])
 | .tup a,b,c,M,Q=>¬(HT.sIx a.length 0 b=0/\HT.sIx a.length a.length c=a.length)/\Q (.tup (cutD a b c)) M
 | _,_,_,_,_=>False
def tyD(M:Z2):D->Option String
 | .non=>some "NoneType"
 | .bl _=>some "bool"
 | .int _=>some "int"
 | .str _=>some "str"
 | .tup _=>some "tuple"
 | .ref n=>match M[n]? with
  | some (.lst _)=>some "list"
  | some (.frz _)=>none
  | some (.dct _)=>some "dict"
  | some (.fdc _)=>none
  | none=>none
 | _=>none
def isD(K:Ae)(M:Z2):D->D->(Bool->Prop)->Prop
 | .exn _ C _ _,.cls c,Q=>∃b,ExcIs K C/\Kk K (.ref C) (.ref c)=some b/\Q b
 | .exn _ C _ _,.ty c,Q=>∃b,ExcIs K C/\Kk K (.ref C) (.type c)=some b/\Q b
 | .exn _ C _ _,.tup e,Q=>∃(a:List Uj) (b:Bool),e=a.map D.cls/\ExcIs K C/\PySem.W.kitAny K (.ref C) (a.map Value.ref)=some b/\Q b
 | d,.ty c,Q=>∃t b,tyD M d=some t/\Kk K (.type t) (.type c)=some b/\Q b
 | _,_,_=>False
def lenD(x:D)(M:Z2)(Q:DK):Prop:=match x with
 | .ref n=>(∃a,readL M n=some a/\Q (.int a.length) M)\/(∃a,Y7 M n=some a/\Q (.int a.length) M)
 | .tup a=>Q (.int a.length) M
 | .str x=>x.length<=sizeLine/\Q (.int x.length) M
 | _=>False
def bfD(K:Ae)(b:Bf)(l:LD)(M:Z2)(Q:DK):Prop:=match b with
 | .len=>at1 l λx=>lenD x M Q
 | .isinst=>at2 l λd c=>isD K M d c λb=>Q (.bl b) M
 | .min2=>at2 l λx y=>Qe x y λi j=>Q (.int (if j<i then j else i)) M
 | .max2=>at2 l λx y=>Qe x y λi j=>Q (.int (if j >i then j else i)) M
 | .list1=>at1 l λd=>∃a,B3 M d=some a/\Q (.ref M.length) (M++[.lst a])
 | .tuple1=>at1 l λx=>match x with
  | .tup a=>Q (.tup a) M
  | x=>Si x λn=>∃a,readL M n=some a/\Q (.tup a) M
 | .dict1=>at1 l λx=>Si x λn=>(∃a,Y7 M n=some a/\Q (.ref M.length) (M++[.dct a]))\/(∃e:KQ9,readL M n=some (Ys e)/\e.length<sizeLine/\Q (.ref M.length) (M++[.dct (Su e)]))
 | .sortedL=>at1 l λx=>Si x λn=>∃f:List Int,readL M n=some (f.map .int)/\f.length<64/\∀g:List Int,g.Perm f->g.Pairwise (·<=·)->Q (.ref M.length) (M++[.lst (g.map .int)])
def setD(b:Bool)(n:Nat)(M:Z2)(Q:DK):Prop:=match b with
 | true=>False
 | false=>∃e:List Key,readL M n=some (e.map kD)/\e.length+1<scanBound/\∀a:List Key,a.Nodup->(∀k,k∈a↔k∈e)->Q (.int a.length) M
def mtD(m:Mt)(o:D)(l:LD)(M:Z2)(Q:DK):Prop:=Si o λn=>match m with
 | .append=>at1 l λd=>∃a,Zh M n=some a/\a.length<sizeLine/\Q .non (M.set n (.lst (a++[d])))
 | .get2=>at2 l λk z=>∃b y,Y7 M n=some b/\keyD k=some y/\Q ((valD b y).getD z) M
 | .pop0=>at0 l (∃a d,Zh M n=some a/\a[a.length - 1]?=some d/\Q d (M.set n (.lst a.dropLast)))
 | .clear=>at0 l (∃a,Zh M n=some a/\Q .non (M.set n (.lst [])))
 | .reverse=>at0 l (∃a,Zh M n=some a/\Q .non (M.set n (.lst a.reverse)))
 | .index1=>at1 l λd=>∃a k z,readL M n=some a/\Zv d=true/\a.all Zv=true/\a[k]?=some z/\eqF z d=true/\(∀(j:Nat) u,j<k->a[j]?=some u->eqF u d=false)/\Q (.int k) M
 | .extend=>at1 l λt=>Si t λm=>∃a c,Zh M n=some a/\Zh M m=some c/\a.length+c.length<=sizeLine/\Q .non (M.set n (.lst (a++c)))
def mtK(m:Mt)(o:D)(M:Z2):Prop:=Si o λn=>match m with
 | .get2=>(Y7 M n).isSome=true
 | _=>(readL M n).isSome=true
def tgD:LQ->D->DEnv->(DEnv->Prop)->Prop
 | [i],d,a,Q=>Q (a.set i (some d))
 | b,.tup c,a,Q=>c.length=b.length/\Q ((b.zip c).foldl (λa p=>a.set p.1 (some p.2)) a)
 | _,_,_,_=>False
inductive Own where
 | no | lst (n:Nat) | enm (n:Nat) | dct (n:Nat) | two (n m:Nat)
def Xk(kvs:KQ9):LD:=kvs.map λp=>kD p.1
def Zi9(n:Nat)(M:Z2)(Q:Z2->Prop):Prop:=∃a,M[n]?=some (.fdc a)/\Q (M.set n (.dct a))
def Yr8(n:Nat)(R:DEnds):DEnds:={nx:=λa M=>Zi9 n M (R.nx a),rt:=λd M=>Zi9 n M (R.rt d),bk:=λ_ _=>False,ct:=λ_ _=>False}
def F3(xs:LD):LD:=xs.mapIdx λi d=> .tup [.int i,d]
def zipT(ys a:LD):LD:=(ys.zip a).map λp=>D.tup [p.1,p.2]
def itD(M:Z2):D->(Own->LD->Prop)->Prop
 | .ref n,R=>∃a,readL M n=some a/\R (.lst n) a
 | .tup a,R=>R .no a
 | .gtup a,R=>R .no a
 | _,_=>False
def Wg(lo:Int)(n:Nat):LD:=(Aj n).map fun(k:Nat)=>D.int (lo+(k:Int))
def Jr(own:Own)(xs:LD)(M:Z2):Prop:=match own with
 | .lst n=>readL M n=some xs
 | .enm n=>∃a,readL M n=some a/\xs=F3 a
 | .dct n=>∃b,M[n]?=some (.fdc b)/\xs=Xk b
 | .two n m=>∃a c,readL M n=some a/\readL M m=some c/\xs=zipT a c
 | .no=>True
def forD(own:Own)(xs:LD)(e:LQ)(body:DS):LD->DEnds->DEnv->Z2->Prop
 | [],R,c,M=>Jr own xs M/\R.nx c M
 | d::r,R,c,M=>Jr own xs M/\tgD e d c λb=>body {nx:=λa f=>forD own xs e body r R a f,rt:=R.rt,bk:=R.nx,ct:=λa f=>forD own xs e body r R a f} b M
def Ry(own:Own)(xs:LD)(e:LQ)(cd:DT)(f:DE)(z:Nat):LD->DEnv->Z2->(Z2->Prop)->Prop
 | [],_,M,Q=>Jr own xs M/\Q M
 | d::r,i,M,Q=>Jr own xs M/\tgD e d i λa=>cd a M λb h=>if b=true then
   f a h λy g=>∃c,Zh g z=some c/\c.length<sizeLine/\Ry own xs e cd f z r a (g.set z (.lst (c++[y]))) Q
   else Ry own xs e cd f z r a h Q
def capD(js:List (Option Nat))(a:DEnv):DEnv:=js.map λo=>o.bind λj=>(a[j]?).join
abbrev noX:DX:=λ_ _ _=>False
structure Cfg where
 K:Ae
 Γ:List DSp
 G:LD
mutual
def te(c:Cfg)(X:DX):E->DE
 | .var i,p,M,Q=>match p[i]? with
  | some (some d)=>Q d M
  | _=>False
 | .int i,_,M,Q=>Q (.int i) M
 | .bl b,_,M,Q=>Q (.bl b) M
 | .non,_,M,Q=>Q .non M
 | .str x,_,M,Q=>Q (.str x) M
 | .ty n,_,M,Q=>Q (.ty (Yw n)) M
 | .glb k,_,M,Q=>match c.G[k]? with
  | some d=>Q d M
  | none=>False
 | .bin D a b,p,M,Q=>te c X a p M λx g=>te c X b p g λy t=>opD D x y t Q
 | .neg a,p,M,Q=>te c X a p M λx g=>match x with
  | .int i=>Q (.int (-i)) g
  | _=>False
 | .not a,p,M,Q=>te c X a p M λx g=>truD g x λb=>Q (.bl (!b)) g
 | .cmp D a b,p,M,Q=>te c X a p M λx g=>te c X b p g λy t=>cmD t D x y λr=>Q (.bl r) t
 | .bop k u,p,M,Q=>tbop c X k u p M Q
 | .lst u,p,M,Q=>tes c X u p M λv g=>v.length<=sizeLine/\Q (.ref g.length) (g++[.lst v])
 | .tup u,p,M,Q=>tes c X u p M λv g=>v.length<=sizeLine/\Q (.tup v) g
 | .dict0,_,M,Q=>Q (.ref M.length) (M++[.dct []])
 | .lkeys a,p,M,Q=>te c X a p M λx g=>Si x λn=>∃s,Y7 g n=some s/\Q (.ref g.length) (g++[.lst (Xk s)])
 | .lrng a,p,M,Q=>te c X a p M λx g=>Gi x λj=>0<=j/\j<=1000000/\Q (.ref g.length) (g++[.lst (Wg 0 j.toNat)])
 | .dct a b,p,M,Q=>te c X a p (M++[.dct []]) λx g=>te c X b p g λy t=>∃k,keyD x=some k/\Y7 t M.length=some []/\Q (.ref M.length) (t.set M.length (.dct [#v[k,y]]))
 | .ix a b,p,M,Q=>te c X a p M λx g=>te c X b p g λy t=>ixD t x y λd=>Q d t
 | .sl a F H,p,M,Q=>te c X a p M λx g=>teo c X F p g λl t=>teo c X H p t λh z=>slD x l h z Q
 | .call f u,p,M,Q=>tes c X u p M λv g=>match c.Γ[f]? with
  | some I=>I v g Q X
  | none=>False
 | .bf b u,p,M,Q=>tes c X u p M λv g=>bfD c.K b v g Q
 | .slW a F H,p,M,Q=>te c X a p M λx g=>teo c X F p g λl t=>teo c X H p t λh z=>Y61 x λw=>Q (.tup (cutD w l h)) z
 | .setf b a,p,M,Q=>te c X a p M λx g=>Si x λn=>setD b n g Q
 | .rev a,p,M,Q=>te c X a p M λx g=>match x with
  | .ref n=>∃w,readL g n=some w/\Q (.ref g.length) (g++[.lst w.reverse])
  | _=>False
 | .mt m o u,p,M,Q=>te c X o p M λx g=>mtK m x g/\tes c X u p g λv t=>mtD m x v t Q
 | .compQ _ B A d q e,p,M,Q=>te c X d p M λx g=>Si x λn=>∃s,Y7 g n=some s/\Ry (.dct n) (Xk s) A (λp M P=>te c noX q p M λx g=>truD g x λb=>P b g) (te c noX e) g.length (Xk s) (capD B p) (g.set n (.fdc s)++[.lst []]) λt=>Zi9 n t λz=>Q (.ref g.length) z
 | .compK _ B A d e,p,M,Q=>te c X d p M λx g=>Si x λn=>∃s,Y7 g n=some s/\Ry (.dct n) (Xk s) A (λ_ M P=>P true M) (te c noX e) g.length (Xk s) (capD B p) (g.set n (.fdc s)++[.lst []]) λt=>Zi9 n t λz=>Q (.ref g.length) z
 | .comp _ B A J L e,p,M,Q=>tit c X J p M λC w g=>Ry C w A (tcd c noX L) (te c noX e) g.length w (capD B p) (g++[.lst []]) λt=>Q (.ref g.length) t
def tbop(c:Cfg)(X:DX)(k:Bool):Es->DE
 | .nil,_,_,_=>False
 | .cons e .nil,a,M,Q=>te c X e a M Q
 | .cons e (.cons f r),a,M,Q=>te c X e a M λx d=>truD d x λb=>if b=k then tbop c X k (.cons f r) a d Q else Q x d
def tes(c:Cfg)(X:DX):Es->DA
 | .nil,_,M,Q=>Q [] M
 | .cons e r,a,M,Q=>te c X e a M λd g=>tes c X r a g λb f=>Q (d::b) f
def teo(c:Cfg)(X:DX):Eo->DEnv->Z2->(Option Int->Z2->Prop)->Prop
 | .no,_,M,Q=>Q none M
 | .yes e,a,M,Q=>te c X e a M λd b=>match d with
  | .int i=>Q (some i) b
  | _=>False
def tcd(c:Cfg)(X:DX):Eo->DT
 | .no,_,M,Q=>Q true M
 | .yes e,d,M,Q=>te c X e d M λx a=>truD a x λb=>Q b a
def tit(c:Cfg)(X:DX):It->DEnv->Z2->(Own->LD->Z2->Prop)->Prop
 | .seq e,f,M,Q=>te c X e f M λd b=>itD b d λh g=>Q h g b
 | .rng1 a,f,M,Q=>te c X a f M λd b=>match d with
  | .int j=> -(2 ^ 62)<=j/\j<2 ^ 62/\Q .no (Wg 0 j.toNat) b
  | _=>False
 | .enm e,f,M,Q=>te c X e f M λd b=>match d with
  | .ref n=>∃g,readL b n=some g/\Q (.enm n) (F3 g) b
  | _=>False
end
theorem iseq09{c X e f M Q}:tit c X (.seq e) f M Q=(te c X e f M λd b=>itD b d λh g=>Q h g b):=rfl
def irng119{c X a f M Q}:tit c X (.rng1 a) f M Q=(te c X a f M λd b=>match d with|.int j=> -(2 ^ 62)<=j/\j<2 ^ 62/\Q .no (Wg 0 j.toNat) b|_=>False):=rfl
def ienm29{c X e f M Q}:tit c X (.enm e) f M Q=(te c X e f M λd b=>match d with|.ref n=>∃g,readL b n=some g/\Q (.enm n) (F3 g) b|_=>False):=rfl
def dno09{c X u1 M Q}:tcd c X .no u1 M Q=(Q true M):=rfl
def dyes19{c X e d M Q}:tcd c X (.yes e) d M Q=(te c X e d M λx a=>truD a x λb=>Q b a):=rfl
def ono09{c X u1 M Q}:teo c X .no u1 M Q=(Q none M):=rfl
def oyes19{c X e a M Q}:teo c X (.yes e) a M Q=(te c X e a M λd b=>match d with|.int i=>Q (some i) b|_=>False):=rfl
def lnil09{c X u1 M Q}:tes c X .nil u1 M Q=(Q [] M):=rfl
def lcons19{c X e r a M Q}:tes c X (.cons e r) a M Q=(te c X e a M λd g=>tes c X r a g λb f=>Q (d::b) f):=rfl
def bnil09{c X k u1 u2 u3}:tbop c X k .nil u1 u2 u3=(False):=rfl
def bcons19{c X k e a M Q}:tbop c X k (.cons e .nil) a M Q=(te c X e a M Q):=rfl
def bcons29{c X k e f r a M Q}:tbop c X k (.cons e (.cons f r)) a M Q=(te c X e a M λx d=>truD d x λb=>if b=k then tbop c X k (.cons f r) a d Q else Q x d):=rfl
def evar9{c X i p M Q}:te c X (.var i) p M Q=(match p[i]? with|some (some d)=>Q d M|_=>False):=rfl
def eint9{c X i u1 M Q}:te c X (.int i) u1 M Q=(Q (.int i) M):=rfl
def ebl9{c X b u1 M Q}:te c X (.bl b) u1 M Q=(Q (.bl b) M):=rfl
def enon9{c X u1 M Q}:te c X .non u1 M Q=(Q .non M):=rfl
def estr9{c X x u1 M Q}:te c X (.str x) u1 M Q=(Q (.str x) M):=rfl
def ety9{c X n u1 M Q}:te c X (.ty n) u1 M Q=(Q (.ty (Yw n)) M):=rfl
def eglb9{c X k u1 M Q}:te c X (.glb k) u1 M Q=(match c.G[k]? with|some d=>Q d M|none=>False):=rfl
def ebin9{c X D a b p M Q}:te c X (.bin D a b) p M Q=(te c X a p M λx g=>te c X b p g λy t=>opD D x y t Q):=rfl
def eneg9{c X a p M Q}:te c X (.neg a) p M Q=(te c X a p M λx g=>match x with|.int i=>Q (.int (-i)) g|_=>False):=rfl
def enot9{c X a p M Q}:te c X (.not a) p M Q=(te c X a p M λx g=>truD g x λb=>Q (.bl (!b)) g):=rfl
def ecmp9{c X D a b p M Q}:te c X (.cmp D a b) p M Q=(te c X a p M λx g=>te c X b p g λy t=>cmD t D x y λr=>Q (.bl r) t):=rfl
def ebop9{c X k u p M Q}:te c X (.bop k u) p M Q=(tbop c X k u p M Q):=rfl
def elst9{c X u p M Q}:te c X (.lst u) p M Q=(tes c X u p M λv g=>v.length<=sizeLine/\Q (.ref g.length) (g++[.lst v])):=rfl
def etup9{c X u p M Q}:te c X (.tup u) p M Q=(tes c X u p M λv g=>v.length<=sizeLine/\Q (.tup v) g):=rfl
def edict09{c X u1 M Q}:te c X .dict0 u1 M Q=(Q (.ref M.length) (M++[.dct []])):=rfl
def elkeys9{c X a p M Q}:te c X (.lkeys a) p M Q=(te c X a p M λx g=>Si x λn=>∃s,Y7 g n=some s/\Q (.ref g.length) (g++[.lst (Xk s)])):=rfl
def elrng9{c X a p M Q}:te c X (.lrng a) p M Q=(te c X a p M λx g=>Gi x λj=>0<=j/\j<=1000000/\Q (.ref g.length) (g++[.lst (Wg 0 j.toNat)])):=rfl
def edct9{c X a b p M Q}:te c X (.dct a b) p M Q=(te c X a p (M++[.dct []]) λx g=>te c X b p g λy t=>∃k,keyD x=some k/\Y7 t M.length=some []/\Q (.ref M.length) (t.set M.length (.dct [#v[k,y]]))):=rfl
def eix9{c X a b p M Q}:te c X (.ix a b) p M Q=(te c X a p M λx g=>te c X b p g λy t=>ixD t x y λd=>Q d t):=rfl
def esl9{c X a F H p M Q}:te c X (.sl a F H) p M Q=(te c X a p M λx g=>teo c X F p g λl t=>teo c X H p t λh z=>slD x l h z Q):=rfl
def ecall9{c X f u p M Q}:te c X (.call f u) p M Q=(tes c X u p M λv g=>match c.Γ[f]? with|some I=>I v g Q X|none=>False):=rfl
def ebf9{c X b u p M Q}:te c X (.bf b u) p M Q=(tes c X u p M λv g=>bfD c.K b v g Q):=rfl
def eslW9{c X a F H p M Q}:te c X (.slW a F H) p M Q=(te c X a p M λx g=>teo c X F p g λl t=>teo c X H p t λh z=>Y61 x λw=>Q (.tup (cutD w l h)) z):=rfl
def esetf9{c X b a p M Q}:te c X (.setf b a) p M Q=(te c X a p M λx g=>Si x λn=>setD b n g Q):=rfl
def erev9{c X a p M Q}:te c X (.rev a) p M Q=(te c X a p M λx g=>match x with|.ref n=>∃w,readL g n=some w/\Q (.ref g.length) (g++[.lst w.reverse])|_=>False):=rfl
def emt9{c X m o u p M Q}:te c X (.mt m o u) p M Q=(te c X o p M λx g=>mtK m x g/\tes c X u p g λv t=>mtD m x v t Q):=rfl
def ecompQ9{c X u1 B A d q e p M Q}:te c X (.compQ u1 B A d q e) p M Q=(te c X d p M λx g=>Si x λn=>∃s,Y7 g n=some s/\Ry (.dct n) (Xk s) A (λp M P=>te c noX q p M λx g=>truD g x λb=>P b g) (te c noX e) g.length (Xk s) (capD B p) (g.set n (.fdc s)++[.lst []]) λt=>Zi9 n t λz=>Q (.ref g.length) z):=rfl
def ecompK9{c X u1 B A d e p M Q}:te c X (.compK u1 B A d e) p M Q=(te c X d p M λx g=>Si x λn=>∃s,Y7 g n=some s/\Ry (.dct n) (Xk s) A (λ_ M P=>P true M) (te c noX e) g.length (Xk s) (capD B p) (g.set n (.fdc s)++[.lst []]) λt=>Zi9 n t λz=>Q (.ref g.length) z):=rfl
def ecomp9{c X u1 B A J L e p M Q}:te c X (.comp u1 B A J L e) p M Q=(tit c X J p M λC w g=>Ry C w A (tcd c noX L) (te c noX e) g.length w (capD B p) (g++[.lst []]) λt=>Q (.ref g.length) t):=rfl
def tt(c:Cfg)(X:DX)(e:E):DT:=λd M Q=>te c X e d M λx a=>truD a x λb=>Q b a
def tkD:Tk->DEnds->DEnv->DK
 | .drop,R,a=>λ_ M=>R.nx a M
 | .ret,R,_=>R.rt
 | .set j,R,a=>λd M=>R.nx (a.set j (some d)) M
def excD:LD->Option D
 | []=>some .non
 | [d]=>some d
 | _=>none
mutual
def ts(c:Cfg)(X:DX):S->DS
 | .cont,R,l,M=>R.ct l M
 | .ret e,R,l,M=>te c X e l M R.rt
 | .expr e,R,l,M=>te c X e l M λ_ p=>R.nx l p
 | .set A e,R,l,M=>te c X e l M λd p=>tgD A d l λF=>R.nx F p
 | .put o i v,R,l,M=>te c X v l M λd p=>te c X o l p λx w=>te c X i l w λy E=>match x with
  | .ref n=>(∃z k j,y= .int k/\Zh E n=some z/\ixN z.length k=some j/\R.nx l (E.set n (.lst (z.set j d))))\/
    (∃q k,Y7 E n=some q/\keyD y=some k/\q.length<sizeLine/\R.nx l (E.set n (.dct (putD q k d))))
  | _=>False
 | .ite t a b,R,l,M=>tt c X t l M λr p=>if r=true then tss c X a R l p else tss c X b R l p
 | .for_ A N b,R,l,M=>tit c X N l M λH z p=>forD H z A (tss c X b) z R l p
 | .forK A e b,R,l,M=>te c X e l M λd p=>match d with
  | .ref n=>∃q,Y7 p n=some q/\forD (.dct n) (Xk q) A (tss c X b) (Xk q) (Yr8 n R) l (p.set n (.fdc q))
  | _=>False
 | .while_ t b,R,l,M=>∃W:Nat->DEnv->Z2->Prop,(∃m,W m l M)/\∀m l M,W m l M->tt c X t l M λr p=>if r=true then
   tss c X b {nx:=λu w=>∃B,B<m/\W B u w,rt:=R.rt,bk:=R.nx,ct:=λu w=>∃B,B<m/\W B u w} l p else R.nx l p
 | .raise k I,_,l,M=>match c.G[k]? with
  | some (.cls C)=>tes c X I l M λJ p=>match excD J with
   | some r=>X C r p
   | none=>False
  | _=>False
 | .tryN h f I g s,R,l,M=>match c.G[g]? with
  | some (.cls D)=>tes c noX I l M λJ p=>match c.Γ[f]? with
   | some L=>L J p (tkD h R l) λC _ w=>Catch c.K C D true/\tss c noX s R l w
   | none=>False
  | _=>False
def tss(c:Cfg)(X:DX):Ss->DS
 | .nil,R,b,M=>R.nx b M
 | .cons s r,R,b,M=>ts c X s {R with nx:=λa d=>tss c X r R a d} b M
end
theorem scont9{c X R l M}:ts c X .cont R l M=(R.ct l M):=rfl
def sret9{c X e R l M}:ts c X (.ret e) R l M=(te c X e l M R.rt):=rfl
def sexpr9{c X e R l M}:ts c X (.expr e) R l M=(te c X e l M λ_ p=>R.nx l p):=rfl
def sset9{c X A e R l M}:ts c X (.set A e) R l M=(te c X e l M λd p=>tgD A d l λF=>R.nx F p):=rfl
def sput9{c X o i v R l M}:ts c X (.put o i v) R l M=(te c X v l M λd p=>te c X o l p λx w=>te c X i l w λy E=>match x with
  | .ref n=>(∃z k j,y= .int k/\Zh E n=some z/\ixN z.length k=some j/\R.nx l (E.set n (.lst (z.set j d))))\/
    (∃q k,Y7 E n=some q/\keyD y=some k/\q.length<sizeLine/\R.nx l (E.set n (.dct (putD q k d))))
  | _=>False):=rfl
def site9{c X t a b R l M}:ts c X (.ite t a b) R l M=(tt c X t l M λr p=>if r=true then tss c X a R l p else tss c X b R l p):=rfl
def sfor_9{c X A N b R l M}:ts c X (.for_ A N b) R l M=(tit c X N l M λH z p=>forD H z A (tss c X b) z R l p):=rfl
def sforK9{c X A e b R l M}:ts c X (.forK A e b) R l M=(te c X e l M λd p=>match d with
  | .ref n=>∃q,Y7 p n=some q/\forD (.dct n) (Xk q) A (tss c X b) (Xk q) (Yr8 n R) l (p.set n (.fdc q))
  | _=>False):=rfl
def swhile_9{c X t b R l M}:ts c X (.while_ t b) R l M=(∃W:Nat->DEnv->Z2->Prop,(∃m,W m l M)/\∀m l M,W m l M->tt c X t l M λr p=>if r=true then
   tss c X b {nx:=λu w=>∃B,B<m/\W B u w,rt:=R.rt,bk:=R.nx,ct:=λu w=>∃B,B<m/\W B u w} l p else R.nx l p):=rfl
def sraise9{c X k I u1 l M}:ts c X (.raise k I) u1 l M=(match c.G[k]? with
  | some (.cls C)=>tes c X I l M λJ p=>match excD J with
   | some r=>X C r p
   | none=>False
  | _=>False):=rfl
def stryN9{c X h f I g s R l M}:ts c X (.tryN h f I g s) R l M=(match c.G[g]? with
  | some (.cls D)=>tes c noX I l M λJ p=>match c.Γ[f]? with
   | some L=>L J p (tkD h R l) λC _ w=>Catch c.K C D true/\tss c noX s R l w
   | none=>False
  | _=>False):=rfl
def REnv(w:Vw)(a:DEnv)(b:L2.St):Prop:=a.length=b.length/\∀(i:Nat) d,a[i]?=some (some d)->∃v,b[i]?=some (some v)/\RD w d v
def REnv.ext{w c:Vw}{a:DEnv}{b:L2.St}(h:REnv w a b)(x:Ext w c):REnv c a b:=
 (h.1,λi d e=>by let(v,q,r):=h.2 i d e;show(v,q,r.ext x))
def REnv.set{w:Vw}{a:DEnv}{c:L2.St}{d:D}{v:V}(h:REnv w a c)(i:Nat)(r:RD w d v):REnv w (a.set i (some d)) (c.set i (some v)):=by
 show(by simp[h.1],λj g e=>?_);by_cases b:i=j
 .subst b;by_cases f:i<a.length
  .rw[Ds f] at e;cases e;show(v,by rw[Ds (by rw[<-h.1];show f)],r)
  .rw[Hk (by simp;lia)] at e;cases e
 .rw[Dk b] at e;rw[Dk b];show h.2 j g e
structure StOk(w0 w:Vw)(σD:DEnv)(M:Z2)(σ:L2.St)(H:Hp):Prop where
 heap:w.H=H
 ext:Ext w0 w
 rs:RS w M
 env:REnv w σD σ
def StOk.next{w0 w b:Vw}{a:DEnv}{M d:Z2}{c:L2.St}{H:Hp}(s:StOk w0 w a M c H)(x:Ext w b)(r:RS b d):StOk w0 b a d c b.H:=
 (rfl,s.ext.trans x,r,s.env.ext x)
def Aft(w:Vw)(QD:DK)(Q:VK):Prop:=∀v a d b,Ext w a->RS a b->RD a d v->QD d b->Q v a.H
def tF(w0:Vw)(f:DE):TE:=λc H Q=>∃w a M b,StOk w0 w a M c H/\f a M b/\Aft w b Q
def tFA(w0:Vw)(f:DA):TA:=λh H Q=>∃w a M e,StOk w0 w a M h H/\f a M e/\∀c b d g,Ext w b->RS b g->RDs b d c->e d g->Q c b.H
def tFT(w0:Vw)(f:DT):TT:=λg H Q=>∃w a M d,StOk w0 w a M g H/\f a M d/\∀b c e,Ext w c->RS c e->d b e->Q b c.H
def tFO(w0:Vw)(f:DEnv->Z2->(Option Int->Z2->Prop)->Prop):TO:=λg H Q=>∃w a M d,StOk w0 w a M g H/\f a M d/\∀b c e,Ext w c->RS c e->d b e->Q b c.H
def tFS(w0:Vw)(f:DS):TS:=λR h H=>∃w g M d,StOk w0 w g M h H/\f d g M/\
 (∀b c a e,Ext w c->RS c e->REnv c a b->d.nx a e->R.nx b c.H)/\Aft w d.rt R.rt/\
 (∀b c a e,Ext w c->RS c e->REnv c a b->d.bk a e->R.bk b c.H)/\
 (∀b c a e,Ext w c->RS c e->REnv c a b->d.ct a e->R.ct b c.H)
def xkOf(w:Vw)(Z:DX):XK:=λc g f=>∃C d r b a e,c= .ref C/\g=some d/\b.H=f/\Ext w b/\RS b e/\f d=some (.xd [#v["row",r]])/\RD b a r/\Z C a e
def spF(K:Ae)(sp:DSp):Sp:=λf H Q E=>∃w b M d Z,w.K=K/\w.H=H/\RS w M/\RDs w b f/\sp b M d Z/\Aft w d Q/\∀a c e,xkOf w Z a c e->E a c e
def Aft.ext{w a:Vw}(h:Aft w QD Q)(x:Ext w a):Aft a QD Q:=λv b d M y r q p=>h v b d M (x.trans y) r q p
section
variable{X:Cx}{e:Expr}{w0:Vw}
def PE.imp{t t':TE}(h:PE X e t)(k:∀a H Q,t' a H Q->t a H Q):PE X e t':=λb s a H Q I q=>h b s a H Q I (k a H Q q)
def PT.imp{t t':TT}(h:PT X e t)(k:∀a H Q,t' a H Q->t a H Q):PT X e t':=λb s a H Q I q=>h b s a H Q I (k a H Q q)
def PA.imp{t t':TA}(h:PA X es t)(k:∀a H Q,t' a H Q->t a H Q):PA X es t':=λc b s a H Q I q=>h c b s a H Q I (k a H Q q)
def PS.imp{st:Stmt}{t t':TS}(h:PS X st t)(k:∀R a H,t' R a H->t R a H):PS X st t':=λb s a H R I q=>h b s a H R I (k R a H q)
def PSs.imp{st:List Stmt}{t t':TS}(h:PSs X st t)(k:∀R a H,t' R a H->t R a H):PSs X st t':=λb s a H R I q=>h b s a H R I (k R a H q)
end
def rF(w0:Vw)(g:D->D->Z2->DK->Prop):R2:=λx y H Q=>∃w M b a c,w.H=H/\Ext w0 w/\RS w M/\RD w b x/\RD w a y/\g b a M c/\Aft w c Q
def Z9{w:Vw}{i:Int}{v:V}:RD w (.int i) v↔v= .int i:=Uc
def Zw{w:Vw}{i:Str}{v:V}:RD w (.str i) v↔v= .str i:=Uc
def Xn{w:Vw}{i:Bool}{v:V}:RD w (.bl i) v↔v= .bl i:=Uc
def Zq{w:Vw}{v:V}:RD w .non v↔v= .non:=Uc
def Ya2{w:Vw}{n:String}{v:V}:RD w (.ty n) v↔v= .ty n:=Uc
def N6{w:Vw}{n:Uj}{v:V}:RD w (.cls n) v↔v= .ref n:=Uc
def Ze{w:Vw}{i:Nat}{v:V}:RD w (.ref i) v↔i<w.n/\v= .ref (w.μ i):=Uc
def Yd{w:Vw}{b:LD}{v:V}:RD w (.tup b) v↔∃a vs,v= .ref a/\w.H a=some (.tup vs)/\RDs w b vs:=Uc
def Pj{w:Vw}{b:LD}{v:V}:RD w (.gtup b) v↔∃a vs,v= .ref a/\SqT w.K w.H a vs/\RDs w b vs:=Uc
def Fw{w:Vw}{e C b:Uj}{a:D}{v:V}:RD w (.exn e C b a) v↔v= .ref e/\w.H e=some (XO e (.ref C) (some b))/\∃r,w.H b=some (.xd [#v["row",r]])/\RD w a r:=Iff.of_eq (by rw[RD])
def RDs.empty{w:Vw}{a:LD}(h:RDs w a []):a=[]:=by have:=h.length;show Du.mp this.symm
def Yf4{n:Nat}(h:Zh M n=some xs):readL M n=some xs:=by
 ext h Zh;ext readL;split at h
 .rename_i e;rw[e];show h
 .cases h
def Ju{n:Nat}(h:Zh M n=some xs):M[n]?=some (.lst xs):=by
 ext h Zh;split at h
 .rename_i e;rw[e];cases h;rfl
 .cases h
def Nt{n:Nat}(h:Y7 M n=some xs):M[n]?=some (.dct xs):=by
 ext h Y7;split at h
 .rename_i e;rw[e];cases h;rfl
 .cases h
def RS.list{w:Vw}{n:Nat}(R:RS w M)(h:Zh M n=some xs):M[n]?=some (.lst xs)/\∃vs,w.H (w.μ n)=some (.lst vs)/\RDs w xs vs:=
 (Ju h,R.cell n _ (Ju h))
set_option tactic.hygienic true in
def RS.listL{w:Vw}{n:Nat}(R:RS w M)(h:readL M n=some xs):n<w.n/\∃vs,SqL w.K w.H (w.μ n) vs/\RDs w xs vs/\True:=by
 ext h readL;split at h
 .rename_i a e;cases h;let(vs,q,r):=R.cell n _ e;show(by rw[R.len];show(Ab.mp e).1,vs,.inl (.inl q),r,trivial)
 .rename_i a e;cases h;let(vs,q,r):=R.cell n _ e;show(by rw[R.len];show(Ab.mp e).1,vs,q.sq,r,trivial)
 .cases h
def Y92{n:Nat}(h:Y7 M n=some xs):Cb M n=some xs:=by ext Cb;rw[Nt h]
set_option tactic.hygienic true in
def RS.dictF{w:Vw}{n:Nat}(R:RS w M)(h:Cb M n=some xs):∃vs,Rd w.H (w.μ n) (.dK vs)/\RKV w xs vs:=by
 ext h Cb;split at h
 .rename_i c e;cases h;let(vs,b,a):=R.cell n _ e;show(vs,.inl b,a)
 .rename_i c e;cases h;let(o,vs,b,a):=R.cell n _ e;show(vs,.inr (o,b),a)
 .cases h
def RS.dict{w:Vw}{n:Nat}(R:RS w M)(h:Y7 M n=some xs):M[n]?=some (.dct xs)/\∃vs,w.H (w.μ n)=some (.dK vs)/\RKV w xs vs:=
 (Nt h,R.cell n _ (Nt h))
def Yl{w:Vw}{p:Uj}(R:RS w M)(a:w.H p=none)(r:RDs w xs vs):Ext w (w.push p (.lst vs))/\RS (w.push p (.lst vs)) (M++[.lst xs])/\RD (w.push p (.lst vs)) (.ref M.length) (.ref p):=by
 show(Tt a,R.push a (vs,Zc,r.ext (Tt a)),Ze.mpr (?_,?_))
 .change M.length<w.n+1;rw[R.len];lia
 .change V.ref p=V.ref (if M.length=w.n then p else w.μ M.length);rw[ng R.len.symm]
def Q8{w:Vw}{p:Uj}(R:RS w M)(a:w.H p=none)(r:RKV w xs vs):Ext w (w.push p (.dK vs))/\RS (w.push p (.dK vs)) (M++[.dct xs])/\RD (w.push p (.dK vs)) (.ref M.length) (.ref p):=by
 show(Tt a,R.push a (vs,Zc,r.ext (Tt a)),Ze.mpr (?_,?_))
 .change M.length<w.n+1;rw[R.len];lia
 .change V.ref p=V.ref (if M.length=w.n then p else w.μ M.length);rw[ng R.len.symm]
def Vv{w:Vw}{p:Uj}(R:RS w M)(a:w.H p=none)(r:RDs w xs vs):Ext w (w.alloc p (.tup vs))/\RS (w.alloc p (.tup vs)) M/\RD (w.alloc p (.tup vs)) (.tup xs) (.ref p):=
 (Xa a,R.alloc a,Yd.mpr (p,vs,rfl,Zc,r.ext (Xa a)))
def Yr{w:Vw}{n:Nat}(R:RS w M)(a:M[n]?=some (.lst ys))(h:w.H (w.μ n)=some (.lst us))(r:RDs w xs vs):Ext w (w.alloc (w.μ n) (.lst vs))/\RS (w.alloc (w.μ n) (.lst vs)) (M.set n (.lst xs)):=
 (Yv h rfl,R.write a rfl rfl h rfl (vs,Zc,r.ext (Yv h rfl)))
def Pq{w:Vw}{n:Nat}(R:RS w M)(a:M[n]?=some (.dct ys))(h:w.H (w.μ n)=some (.dK us))(r:RKV w xs vs):Ext w (w.alloc (w.μ n) (.dK vs))/\RS (w.alloc (w.μ n) (.dK vs)) (M.set n (.dct xs)):=
 (Yv h rfl,R.write a rfl rfl h rfl (vs,Zc,r.ext (Yv h rfl)))
section
variable{X:Cx}{w0:Vw}
def Sm{o:D->D->Z2->DK->Prop}{k:Int->Int->D}(h:OpR X f (rI C g))(m:∀w i j,RD w (k i j) (g i j))
  {s:Ui} {b:L2.St} {x y:V} {v u:Uh} {w:Vw} {i j:Int} (I:Inv X pins b w.H s) (d:RelV x v) (c:RelV y u) (R:RS w M) (l:RD w (.int i) x) (e:RD w (.int j) y)
  (n:C i j) (q:QD (k i j) M) (a:Aft w QD Q):⇑X (f v u) (EP X pins b Q) X.xe s:=by
 cases Z9.mp l;cases Z9.mp e;show h pins s b w.H _ _ v u Q I d c (i,j,rfl,rfl,n,a _ w _ M (Ext.refl w) R (m w i j) q)
def opOf:Op->Operator
 | .add=> .Add | .sub=> .Sub | .mul=> .Mult | .fdiv=> .FloorDiv | .mod=> .Mod | .pow=> .Pow
def Yn8(h:OpR X f (rI0 g)):OpR X f (rI (λ_ _=>True) g):=λa s b H x y v u Q I d c zz=>by let(i,j,k,e,_,q):=zz;show h a s b H x y v u Q I d c (i,j,k,e,q)
def RDs.rep{w:Vw}(h:RDs w xs vs):∀n:Nat,RDs w (Hn n xs).flatten (Hn n vs).flatten
 | 0=>RDs.nil w
 | n+1=>by rw[Lc,Lc,Lx,Lx];show h.append (RDs.rep h n)
def Zy5(op:Op):OpR X (binaryOp (opOf op)) (rF w0 (opD op)):=by
 intro b s G H x y v u Q I f e h;let(w,M,N,S,QD,rfl,e0,R,d,m,g,a):=h;have t:∀w (i:Int),RD w (.int i) (.int i):=λw i=>Z9.mpr rfl;cases op with
 | add=>
  cases N with
  | int i=>let(j,rfl,g2):=Xu g;clear g;have g:=g2;show Sm (o:=opD .add) (C:=λ_ _=>True) (k:=λi j=> .int (i+j)) (Yn8 Yl8) (λw i j=>t w _) I f e R d m trivial g a
  | str z=>
   cases S with
   | str V=>cases Zw.mp d;cases Zw.mp m;show Za0 b s G w.H _ _ v u Q I f e (_,_,rfl,rfl,g.1,a _ w _ M (Ext.refl w) R (Zw.mpr rfl) g.2)
   | _=>show Dq g
  | tup l=>
   let(Z,rfl,g2):=F5 g;clear g;have g:=g2;let(U,c,rfl,K,q):=Yd.mp d;let(T,r,rfl,L,A):=Yd.mp m;let(g1,g2,g3):=g;show Y72 b s G w.H _ _ v u Q I f e (U,T,c,r,rfl,rfl,.of K,.of L,?_,by rw[q.length,A.length];show g2,λz=>?_,λ_ p F=>?_)
   .intro z;subst z;have:=q.length;simp at this;show g1 (Du.mp this.symm)
   .subst z;cases A.empty;rw[Hd] at g3;show a _ w _ M (Ext.refl w) R d g3
   .let(E,D,B):=Vv R F (q.append A);show a _ _ _ M E D B g3
  | ref n=>let(Y,rfl,g2):=Y4 g;clear g;have g:=g2;let(K,rfl):=Ze.mp d;let(L,rfl):=Ze.mp m;let(O,W,g1,g2,g3,g4):=g;let(_,c,J,q):=R.list g1;let(_,r,P,A):=R.list g2;show Yl4 b s G w.H _ _ v u Q I f e (_,_,c,r,rfl,rfl,J,P,by rw[q.length,A.length];show g3,λp F=>?_);let(E,D,B):=Yl R F (q.append A);show a _ _ _ _ E D B g4
  | _=>show Dq g
 | mul=>
  cases N with
  | int i=>let(j,rfl,g2):=Xu g;clear g;have g:=g2;show Sm (o:=opD .add) (C:=IntMulOk) (k:=λi j=> .int (i * j)) Y70 (λw i j=>t w _) I f e R d m g.1 g.2 a
  | ref n=>let(k,rfl,g2):=Xu g;clear g;have g:=g2;let(K,rfl):=Ze.mp d;cases Z9.mp m;let(O,g1,g2,g3,g4,g5):=g;let(_,c,J,q):=R.list g1;show Yq9 b s G w.H _ _ v u Q I f e (_,_,c,rfl,rfl,J,'o','o',by rw[q.length];show g4,λp F=>?_);let(E,D,B):=Yl R F (q.rep _);show a _ _ _ _ E D B g5
  | _=>show Dq g
 | sub=>let(i,j,rfl,rfl,g2):=Yg g;clear g;have g:=g2;show Sm (o:=opD .add) (C:=λ_ _=>True) (k:=λi j=> .int (i - j)) (Yn8 Ym9) (λw i j=>t w _) I f e R d m trivial g a
 | fdiv=>let(i,j,rfl,rfl,g2):=Yg g;clear g;have g:=g2;show Sm (o:=opD .add) (C:=Z60) (k:=λi j=> .int (qdiv i j)) Zt5 (λw i j=>by rw[Yc0];show t w _) I f e R d m g.1 g.2 a
 | mod=>let(i,j,rfl,rfl,g2):=Yg g;clear g;have g:=g2;show Sm (o:=opD .add) (C:=λ_ j=>j≠0) (k:=λi j=> .int (qmod i j)) Y56 (λw i j=>by rw[Yb8];show t w _) I f e R d m g.1 g.2 a
 | pow=>let(i,j,rfl,rfl,g2):=Yg g;clear g;have g:=g2;show Sm (o:=opD .add) (C:=CPow) (k:=λi j=> .int (i ^ j.toNat)) Yj0 (λw i j=>t w _) I f e R d m g.1 g.2 a
end
def rB(w0:Vw)(g:Z2->D->D->(Bool->Prop)->Prop):R2:=λx y H Q=>∃w M c a d,w.H=H/\w.K=w0.K/\RS w M/\RD w c x/\RD w a y/\g M c a d/\∀b,d b->Q (.bl b) H
mutual
theorem Zl7{w:Vw}(R:RS w M):∀(j:PyData) {d:D} {v:V},PD M j d->RD w d v->Rep w.K w.H j v
 | .none,d,v,h,r=>by ext h PD;subst h;ext Rep;show Zq.mp r
 | .bool b,d,v,h,r=>by ext h PD;subst h;ext Rep;show Xn.mp r
 | .int b,d,v,h,r=>by ext h PD;subst h;ext Rep;show Z9.mp r
 | .str b,d,v,h,r=>by ext h PD;subst h;ext Rep;show Zw.mp r
 | .list c,d,v,h,r=>by ext h PD;let(n,l,rfl,k,i):=h;let(_,rfl):=Ze.mp r;let(_,e,g,f,_):=R.listL k;ext Rep;show(_,e,rfl,g,Qi R c i f)
 | .tuple c,d,v,h,r=>by ext h PD;let(l,rfl,i):=h;let(a,e,rfl,g,f):=Yd.mp r;ext Rep;show(_,e,rfl,.of g,Qi R c i f)
 | .dict _,d,v,h,r=>by ext h PD;show h.elim
theorem Qi{w:Vw}(R:RS w M):∀(xs:List PyData) {a:LD} {vs:LV},PDs M xs a->RDs w a vs->Xw w.K w.H xs vs
 | [],a,vs,h,r=>by ext h PDs;subst h;ext r RDs;ext Xw;show r
 | x::xs,a,vs,h,r=>by ext h PDs;let(d,i,rfl,g,f):=h;ext r RDs;let(v,b,rfl,e,c):=r;ext Xw;show(v,b,rfl,Zl7 R x g e,Qi R xs f c)
end
theorem W1{w:Vw}{d:D}{v:V}(f:Zv d=true)(r:RD w d v):X4 v=true:=by
 cases d<;>simp[Zv] at f
 .cases Zq.mp r;rfl
 .cases Xn.mp r;rfl
 .cases Z9.mp r;rfl
 .cases Zw.mp r;rfl
def Qh{w:Vw}{d e:D}{v u:V}(f:Zv d=true)(g:Zv e=true)(r:RD w d v)(q:RD w e u):eqV v u=eqF d e:=by
 cases d<;>simp[Zv] at f
 all_goals (cases e<;>simp[Zv] at g)
 all_goals first
  |(first | cases Zq.mp r | cases Xn.mp r | cases Z9.mp r | cases Zw.mp r)
 all_goals first
  |(first | cases Zq.mp q | cases Xn.mp q | cases Z9.mp q | cases Zw.mp q)
 all_goals rfl
def Zk6{w:Vw}{x:D}{v:V}(f:Zv x=true)(r:RD w x v):∀{a:LD} {vs:LV},a.all Zv=true->RDs w a vs->inV v vs=inD x a/\vs.all X4=true
 | [],vs,_,h=>by ext h RDs;subst h;show(rfl,rfl)
 | d::a,vs,g,h=>by ext h RDs;let(j,k,rfl,b,i):=h;erw[Ko,Bz9] at g;let(e,c):=Zk6 f r g.2 i;show(?_,by erw[Ko,Bz9];show(W1 g.1 b,c));unfold inV inD at *;rw[Le,Le,Qh g.1 f b r,e]
def RKV.val{w:Vw}:∀{a:KQ9} {vs:List (Key×V)} (k:Key),RKV w a vs->(valD a k=none/\valV vs k=none)\/∃d v,valD a k=some d/\valV vs k=some v/\RD w d v
 | [],vs,k,h=>by ext h RKV;subst h;show .inl (rfl,rfl)
 |#v[b,d]::a,vs,k,h=>by
  ext h RKV;let(v,r,rfl,f,c):=h;by_cases e:b=k
  .show .inr (d,v,by simp[valD,Im,e],by simp[valV,Im,e],f)
  .have:=RKV.val k c;simpa[valD,valV,Im,e] using this
def RKV.length{w:Vw}:∀{a:KQ9} {vs:List (Key×V)},RKV w a vs->vs.length=a.length
 | [],vs,h=>by ext h RKV;subst h;rfl
 |#v[c,d]::a,vs,h=>by ext h RKV;let(v,r,rfl,e,b):=h;simp[RKV.length b]
def RKV.any{w:Vw}(k:Key):∀{b:KQ9} {vs:List (Key×V)},RKV w b vs->(vs.any λa=>decide (a.1=k))=(b.any λa=>decide (a.1=k))
 | [],vs,h=>by ext h RKV;subst h;rfl
 |#v[e,d]::b,vs,h=>by ext h RKV;let(v,r,rfl,f,c):=h;simp[RKV.any k c]
def RKV.repl{w:Vw}{k:Key}{d:D}{v:V}(q:RD w d v):∀{b:KQ9} {vs:List (Key×V)},RKV w b vs->RKV w (b.map λa=>if a.1=k then#v[a.1,d] else a) (vs.map λa=>if a.1=k then#v[a.1,v] else a)
 | [],vs,h=>by ext h RKV;subst h;ext RKV;rfl
 |#v[g,j]::b,vs,h=>by
  ext h RKV;let(f,r,rfl,i,c):=h;erw[Az];by_cases e:g=k
  .rw[ng e,ng e];ext RKV;show(v,_,rfl,q,RKV.repl q c)
  .rw[nc e,nc e];ext RKV;show(f,_,rfl,i,RKV.repl q c)
def RKV.snoc{w:Vw}{k:Key}{d:D}{v:V}(q:RD w d v):∀{a:KQ9} {vs:List (Key×V)},RKV w a vs->RKV w (a++[#v[k,d]]) (vs++[#v[k,v]])
 | [],vs,h=>by ext h RKV;subst h;ext RKV;show(v,[],rfl,q,by ext RKV;rfl)
 |#v[c,g]::a,vs,h=>by ext h RKV;let(b,r,rfl,f,e):=h;change RKV w (#v[c,g]::(a++[#v[k,d]])) _;ext RKV;show(b,_,rfl,f,RKV.snoc q e)
def RKV.put{w:Vw}{k:Key}{d:D}{v:V}(q:RD w d v){a:KQ9}(h:RKV w a vs):RKV w (putD a k d) (putK vs k v):=by
 unfold putD putK;rw[h.any k];split
 .show h.repl q
 .show h.snoc q
def R6{w:Vw}{d:D}{k:Key}{v:V}(h:keyD d=some k)(r:RD w d v):v=kV k:=by
 cases d<;>simp[keyD] at h
 .subst h;show Z9.mp r
 .subst h;show Zw.mp r
section
variable{X:Cx}{w0:Vw}
def cmOf:Cm->CmpOp
 | .lt=> .Lt | .le=> .LtE | .gt=> .Gt | .ge=> .GtE | .eq=> .Eq | .ne=> .NotEq | .is=> .Is | .isnot=> .IsNot | .isin=> .In | .notin=> .NotIn
def Yn9(n:X.A.units+64<cLine):OpR X (compareOp .NotEq) (rEqD X.K true):=by intro a s m H x y v u Q I c b h;let(l,k,j,i,g,f,o,q):=h;let(r,e):=Rep.reads I l x v j c;let(p,d):=Rep.reads I k y u i b;show PySem.SeqAt.compareNe_reads e d g f 'o' (.bl _,H,I,rfl,q)
def E9{w:Vw}{pins:PLO}{σ:L2.St}{s:Ui}{A:Around}{b:KQ9}{vb:List (Key×V)}{ub:List (Key×Uh)}(rb:RKV w b vb)(kb:KV vb ub)(fb:(b.all λkv=>Zv kv.2)=true):
  ∀{a:KQ9} {va:List (Key×V)} {ua:List (Key×Uh)},(a.all λkv=>Zv kv.2)=true->RKV w a va->KV va ua->PySem.W.KeqHits A s ub ua (a.all λkv=>match valD b kv.1 with
   | some y=>eqF kv.2 y
   | none=>false)
 | [],va,ua,_,h,k=>by ext h RKV;subst h;cases k;show .nil
 |#v[k0,d]::a,va,ua,f,h,k=>by
  ext h RKV;let(v,r,rfl,h1,h2):=h;erw[Ko,Bz9] at f;cases k with
  | @cons _ q _ ur hk kr=>
   let(k1,u):=q;let(e1,e2):=hk;dsimp only at e1 e2;subst e1;have ih:=E9 (A:=A) (s:=s) (pins:=pins) (σ:=σ) rb kb fb f.2 h2 kr;rw[Ko];rcases rb.val k0 with⟨n1,n2⟩|⟨y,vy,n1,n2,n3⟩
   .have hz:=kb.val k0;rw[n2] at hz;have hz':valueAt ub k0=none:=RelO.none_of hz;erw[n1,Bool.false_and];show .miss hz'
   .have hz:=kb.val k0;rw[n2] at hz;let(uy,ey,ry):=hz.some_of;have fy:Zv y=true:=by
     have hm:#v[k0,y]∈b:=by ext n1 valD;let(p,hp,e):=Ig.mp n1;have:=List.find?_some hp;have hk:p.1=k0:=of_decide_eq_true this;have:=List.mem_of_find?_eq_some hp;rw[<-e,<-hk];show this
     show(Ia.mp fb) _ hm
    erw[n1];show .hit ey ?_ ih;rw[<-Qh f.1 fy h1 n3];show Z06 e2 ry (W1 f.1 h1) (W1 fy n3)
def Wq{w:Vw}:∀{a:LD} {vs:LV},a.all Zv=true->RDs w a vs->vs.all X4=true
 | [],vs,_,r=>by ext r RDs;subst r;rfl
 | d::a,vs,f,r=>by ext r RDs;let(v,e,rfl,c,b):=r;rw[Ko,Bz9] at f;rw[Ko,W1 f.1 c,Wq f.2 b];rfl
def Be{w:Vw}(f:xs.all Zv=true)(g:ys.all Zv=true)(r:RDs w xs vs)(q:RDs w ys us):eqVs vs us=eqFs xs ys:=by
 unfold eqVs eqFs;rw[r.length,q.length];congr 1;have:∀j∈Aj (min xs.length ys.length),eqV (vs.getD j .non) (us.getD j .non)=eqF (xs.getD j .non) (ys.getD j .non):=by intro j a;rw[Hj] at a;have c:j<xs.length:='o';have b:j<ys.length:='o';let(v,k,e):=r.get (Aa c);let(u,i,d):=q.get (Aa b);rw[Ia] at f g;erw[Ad,k,i,Aa c,Aa b,Ki];show Qh (f _ (He c)) (g _ (He b)) e d
 rw[Bool.eq_iff_iff,Ia,Ia];constructor
 .intro h j a;rw[<-this j a];show h j a
 .intro h j a;rw[this j a];show h j a
def Z04(hK:X.K=w0.K)(hu:X.A.units+64<cLine)(neg:Bool):OpR X (compareOp (if neg then .NotEq else .Eq)) (rB w0 λM x y Q=>eqD M x y λb=>Q (if neg then !b else b)):=by
 intro pins s σ H x y v u Q I rx ry h;let(w,M,dx,dy,QD,rfl,e0,R,hx,hy,g,a):=h;have key:∀b:Bool,(scal x y=true/\decide (x=y)=b)->QD (if neg then !b else b)->⇑X (compareOp (if neg then .NotEq else .Eq) v u) (EP X pins σ Q) X.xe s:=by
  rintro b ⟨h1,h2⟩ hq;cases neg with
  | true=>show Yv5 pins s σ w.H x y v u Q I rx ry (h1,by rw[h2];show a _ hq)
  | false=>show Ys1 pins s σ w.H x y v u Q I rx ry (h1,by rw[h2];show a _ hq)
 have hs:∀b,eqS dx dy=some b->scal x y=true/\decide (x=y)=b:=by
  intro b h;cases dx with
  | int i=>
   cases Z9.mp hx;cases dy with
   | int j=>cases Z9.mp hy;cases h;show(rfl,by simp)
   | str j=>cases Zw.mp hy;cases h;show(rfl,by simp)
   | non=>cases Zq.mp hy;cases h;show(rfl,by simp)
   | _=>cases h
  | str i=>
   cases Zw.mp hx;cases dy with
   | str j=>cases Zw.mp hy;cases h;show(rfl,by simp)
   | int j=>cases Z9.mp hy;cases h;show(rfl,by simp)
   | non=>cases Zq.mp hy;cases h;show(rfl,by simp)
   | bl j=>cases Xn.mp hy;cases h;show(rfl,by simp)
   | _=>cases h
  | bl i=>
   cases Xn.mp hx;cases dy with
   | bl j=>cases Xn.mp hy;cases h;show(rfl,by simp)
   | non=>cases Zq.mp hy;cases h;show(rfl,by simp)
   | str j=>cases Zw.mp hy;cases h;show(rfl,by simp)
   | _=>cases h
  | non=>
   cases Zq.mp hx;cases dy with
   | non=>cases Zq.mp hy;cases h;show(rfl,by simp)
   | int j=>cases Z9.mp hy;cases h;show(rfl,by simp)
   | bl j=>cases Xn.mp hy;cases h;show(rfl,by simp)
   | str j=>cases Zw.mp hy;cases h;show(rfl,by simp)
   | _=>cases h
  | _=>cases h
 ext g eqD;cases hb:eqS dx dy with
 | some b=>rw[hb] at g;show key b (hs b hb) g
 | none=>
  rw[hb] at g;rcases g with⟨da,db,p1,p2,p3,p4,p5,g⟩|⟨m,n,ka,kb,rfl,rfl,p1,p2,f1,f2,g⟩|⟨m,n,xs,rfl,rfl,p1,p2,g⟩|⟨xs,ys,ex,ey,f1,f2,g⟩
  .have q1:=Zl7 R da p1 hx;have q2:=Zl7 R db p2 hy;rw[e0,<-hK] at q1 q2;cases neg with
   | true=>show Yn9 hu pins s σ w.H x y v u Q I rx ry (da,db,q1,q2,p3,p4,p5,a _ g)
   | false=>show Yk2 hu pins s σ w.H x y v u Q I rx ry (da,db,q1,q2,p3,p4,p5,a _ g)
  .let(_,rfl):=Ze.mp hx;let(_,rfl):=Ze.mp hy;let(_,va,ha,ra):=R.dict p1;let(_,vb,hb,rb):=R.dict p2;cases (show v=Value.ref (w.μ m) from rx);cases (show u=Value.ref (w.μ n) from ry);let(_,s1,ua,k1,d1):=Z99 I.hok ha;let(_,s2,ub,k2,d2):=Z99 I.hok hb;have hits:=E9 (A:=X.A.in1) (s:=s) (pins:=pins) (σ:=σ) rb k2 f2 f1 ra k1;have hl:(ua.length==ub.length&&(ka.all λkv=>match valD kb kv.1 with
    | some y=>eqF kv.2 y
    | none=>false))=eqKV ka kb:=by
    ext eqKV;rw[<-k1.length,<-k2.length,ra.length,rb.length]
    all_goals rfl
   cases neg with
   | true=>show PySem.W.keq_ne s1 s2 d1 d2 'o' (λ_=>hits) (.bl _,w.H,I,rfl,by rw[hl];show a _ g)
   | false=>show PySem.W.keq_eq s1 s2 d1 d2 'o' (λ_=>hits) (.bl _,w.H,I,rfl,by rw[hl];show a _ g)
  .let(_,rfl):=Ze.mp hx;let(_,rfl):=Ze.mp hy;let(_,va,ha,ra,_):=R.listL p1;let(_,vb,hb,rb,_):=R.listL p2;rw[e0,<-hK] at ha hb;ext rb RDs;subst rb;cases (show v=Value.ref (w.μ m) from rx);cases (show u=Value.ref (w.μ n) from ry);have he:va.isEmpty=xs.isEmpty:=by have:=ra.length;cases va<;>cases xs<;>simp_all
   show Zw9 I hu neg ha hb (by rw[he];show a _ g)
  .have tp:∀{d:D} {zs:LD} {x:V},(d= .tup zs\/d= .gtup zs)->RD w d x->∃p vs,x= .ref p/\SqT X.K w.H p vs/\RDs w zs vs:=by
    rintro d zs x (rfl|rfl) r
    .let(p,vs,e,q1,q2):=Yd.mp r;show(p,vs,e,.of q1,q2)
    .let(p,vs,e,q1,q2):=Pj.mp r;rw[e0,<-hK] at q1;show(p,vs,e,q1,q2)
   let(p,va,rfl,ha,ra):=tp ex hx;let(p2,vb,rfl,hb,rb):=tp ey hy;cases (show v=Value.ref p from rx);cases (show u=Value.ref p2 from ry);show Y91 I hu neg ha hb (Wq f1 ra) (Wq f2 rb) (by rw[Be f1 f2 ra rb];show a _ g)
def Gm{w:Vw}:∀{xs:List (LD)} {vs:LV},RDs w (xs.map .tup) vs->(xs.all λc=>c.all Zv)=true->∃b:List (LV),b.length=vs.length/\(∀(j:Nat) u,vs[j]?=some u->∃a us,u= .ref a/\w.H a=some (.tup us)/\b[j]?=some us/\us.all X4=true)/\∀(ys:LD) (t:LV),ys.all Zv=true->RDs w ys t->(b.any λus=>eqVs us t)=xs.any λc=>eqFs c ys
 | [],vs,h,_=>by rw[Dh] at h;ext h RDs;subst h;show([],rfl,λj u e=>by simp at e,λ_ _ _ _=>rfl)
 | z::c,vs,h,f=>by
  rw[Az] at h;ext h RDs;let(v,r,rfl,q,p):=h;rw[Ko,Bz9] at f;let(a,us,rfl,o,i):=Yd.mp q;let(b,n,m,l):=Gm p f.2;show(us::b,by rw[Dy,Dy,n],λj u e=>?_,λys t k g=>by rw[Le,Le,l ys t k g,Be f.1 k i g]);cases j with
  | zero=>cases e;show(a,us,rfl,o,rfl,Wq f.1 i)
  | succ j=>let(B,d,A,y,x,s):=m j u ↥e;show(B,d,A,y,↥x,s)
def Yt5{s:Ui}{v:L2.St}{H:Hp}(I:Inv X pins v H s)(O:X.A.units+64<cLine)(g:Bool){p b:Uj}{d:List (LV)}{t:LV}(E:SqL X.K H p xs)(G:xs.length=d.length)(F:∀(j:Nat) u,xs[j]?=some u->∃a us,u= .ref a/\H a=some (.tup us)/\d[j]?=some us/\us.all X4=true)(J:H b=some (.tup t))(L:t.all X4=true)
  (q:Q (.bl (if g then !(d.any λus=>eqVs us t) else d.any λus=>eqVs us t)) H):
  ⇑X (compareOp (if g then .NotIn else .In) (.ref b) (.ref p)) (EP X pins v Q) X.xe s:=by
 let(c,r,z,N):=I.list E;have i:∀(j:Nat) w,c[j]?=some w->∃a us,w= .ref a/\H a=some (.tup us)/\d[j]?=some us/\us.all X4=true:=by
  intro j w h;have l:j<xs.length:=by rw[r.length];show(Ab.mp h).1
  let(a,us,o,f,n,m):=F j xs[j] (Aa l);let(M,y,x):=r.get (Aa l);rw[h] at y;cases y;rw[o] at x;cases x;show(a,us,rfl,f,n,m)
 have C:∀(a:Uj) (us:LV),H a=some (.tup us)->eqUT H t (.ref a)=eqVs us t:=by intro a us e;show(match H a with | some (.tup D)=>eqVs D t | _=>false)=_;rw[e]
 have B:∀w∈c.toArray,Hs X.A.in1 s w (.ref b) (eqUT H t w):=by intro w h;let(j,l):=Ke (show w∈c by simpa using h);let(a,us,rfl,f,n,m):=i j w l;rw[C a _ f];show Yn3 I (by change X.A.units+1+2<cLine;lia) f J m L
 have k:c.toArray.any (eqUT H t)=d.any λus=>eqVs us t:=by
  rw[show c.toArray.any (eqUT H t)=c.any (eqUT H t) by simp];have:c.map (eqUT H t)=d.map λus=>eqVs us t:=by
   show Ic λj=>?_;rw[Ch,Ch];cases h:c[j]? with
   | none=>rw[Hk (by rw[<-G,r.length];show List.getElem?_eq_none_iff.mp h)];rfl
   | some w=>let(a,us,rfl,f,n,m):=i j w h;rw[n];change some _=some _;rw[C a _ f]
  have o:c.any (eqUT H t)=(c.map (eqUT H t)).any id:=by rw[List.any_map];rfl
  have f:(d.any λus=>eqVs us t)=(d.map λus=>eqVs us t).any id:=by rw[List.any_map];rfl
  rw[o,f,this]
 cases g with
 | true=>show SeqAt.notIn_listAt (eqUT H t) z.isList B (.bl _,H,I,rfl,by rw[k];show q)
 | false=>show SeqAt.in_listAt (eqUT H t) z.isList B (.bl _,H,I,rfl,by rw[k];show q)
def Bp(S:X.K=w0.K)(hu:X.A.units+64<cLine)(i:Bool):OpR X (compareOp (if i then .NotIn else .In)) (rB w0 λM x y Q=>inQ M x y λb=>Q (if i then !b else b)):=by
 intro j s L H x y v u Q I z E h;let(w,M,U,dy,QD,rfl,T,R,F,N,g,a):=h;have C:∀{p:Uj} {c:LV} {B:LD},y= .ref p->(SqL X.K w.H p c\/SqT X.K w.H p c)->RDs w B c->Zv U=true->B.all Zv=true->QD (if i then !inD U B else inD U B)->
   ⇑X (compareOp (if i then .NotIn else .In) v u) (EP X j L Q) X.xe s:=by
  intro p c B ey f q g2 g3 g4;let(Z,Y):=Zk6 g2 F g3 q;cases i with
  | true=>show Gj j s L w.H _ _ v u Q I z E (p,c,ey,f,W1 g2 F,Y,by rw[Z];show a _ g4)
  | false=>show Zh1 j s L w.H _ _ v u Q I z E (p,c,ey,f,W1 g2 F,Y,by rw[Z];show a _ g4)
 ext g inQ;split at g
 .cases Zw.mp F;cases Zw.mp N;cases i with
  | true=>show Fp j s L w.H _ _ v u Q I z E (_,_,rfl,rfl,a _ g)
  | false=>show Zn3 j s L w.H _ _ v u Q I z E (_,_,rfl,rfl,a _ g)
 .let(_,rfl):=Ze.mp N;rcases g with⟨B,g1,g2,g3,g4⟩|⟨l,k,g1,g2,g3⟩|⟨ys,B,rfl,g1,g2,g3,g4⟩|⟨l,k,g1,g2,g3⟩
  .let(_,c,f,q,_):=R.listL g1;rw[T,<-S] at f;show C rfl (.inl f) q g2 g3 g4
  .let(_,c,f,q):=R.dict g1;cases R6 g2 F;cases (show u=Value.ref _ from E);have P:valV c k=none/\valD l k=none\/∃d t,valD l k=some d/\valV c k=some t:=by
    rcases q.val k with⟨o,m⟩|⟨d,t,o,m,_⟩
    .show .inl (m,o)
    .show .inr (d,t,o,m)
   have G:(valV c k).isSome=(valD l k).isSome:=by
    rcases P with⟨o,m⟩|⟨d,t,o,m⟩
    .rw[o,m];rfl
    .rw[o,m];rfl
   have r:X.A.units+1<cLine:='o';cases i with
   | true=>show Zc2 r I (DGet.k (k:=k) f) z λO J=>(.bl (!(valV c k).isSome),w.H,J,rfl,by rw[G];show a _ g3)
   | false=>show d_in r I (DGet.k (k:=k) f) z λO J=>(.bl (valV c k).isSome,w.H,J,rfl,by rw[G];show a _ g3)
  .let(_,c,f,q,_):=R.listL g1;rw[T,<-S] at f;let(b,us,rfl,G,W):=Yd.mp F;cases (show v=Value.ref b from z);cases (show u=Value.ref _ from E);let(ts,h1,h2,h3):=Gm q g3;show Yt5 I hu i f h1.symm h2 G (Wq g2 W) ?_;rw[h3 _ _ g2 W];show a _ g4
  .let(c,f,q):=R.dictF (n:=_) (xs:=l) (by ext Cb;rw[g1]);cases R6 g2 F;cases (show u=Value.ref _ from E);have P:valV c k=none/\valD l k=none\/∃d t,valD l k=some d/\valV c k=some t:=by
    rcases q.val k with⟨o,m⟩|⟨d,t,o,m,_⟩
    .show .inl (m,o)
    .show .inr (d,t,o,m)
   have G:(valV c k).isSome=(valD l k).isSome:=by
    rcases P with⟨o,m⟩|⟨d,t,o,m⟩
    .rw[o,m];rfl
    .rw[o,m];rfl
   have r:X.A.units+1<cLine:='o';cases i with
   | true=>show Zc2 r I (show DGet _ _ (kV k) (valV c k) from .inl (c,k,f,rfl,rfl)) z λO J=>(.bl (!(valV c k).isSome),w.H,J,rfl,by rw[G];show a _ g3)
   | false=>show d_in r I (show DGet _ _ (kV k) (valV c k) from .inl (c,k,f,rfl,rfl)) z λO J=>(.bl (valV c k).isSome,w.H,J,rfl,by rw[G];show a _ g3)
 .let(p,c,e,f,q):=Yd.mp N;show C e (.inr (.of f)) q g.1 g.2.1 g.2.2
 .let(p,c,e,f,q):=Pj.mp N;rw[T,<-S] at f;show C e (.inr f) q g.1 g.2.1 g.2.2
 .show g.elim
def Bj(t:X.K=w0.K)(r:X.A.units+64<cLine)(op:Cm):OpR X (compareOp (cmOf op)) (rB w0 λM=>cmD M op):=by
 intro c s f H x y v u Q I m k h;let(w,M,F,E,D,rfl,B,R,p,o,g,a):=h;cases op with
 | lt=>let(i,j,rfl,rfl,g2):=Yg g;clear g;have g:=g2;cases Z9.mp p;cases Z9.mp o;show Yr6 c s f w.H _ _ v u Q I m k (_,_,rfl,rfl,a _ g)
 | le=>let(i,j,rfl,rfl,g2):=Yg g;clear g;have g:=g2;cases Z9.mp p;cases Z9.mp o;show Ys3 c s f w.H _ _ v u Q I m k (_,_,rfl,rfl,a _ g)
 | gt=>let(i,j,rfl,rfl,g2):=Yg g;clear g;have g:=g2;cases Z9.mp p;cases Z9.mp o;show Yr4 c s f w.H _ _ v u Q I m k (_,_,rfl,rfl,a _ g)
 | ge=>let(i,j,rfl,rfl,g2):=Yg g;clear g;have g:=g2;cases Z9.mp p;cases Z9.mp o;show Yv8 c s f w.H _ _ v u Q I m k (_,_,rfl,rfl,a _ g)
 | eq=>show Z04 t r false c s f w.H x y v u Q I m k (w,M,_,_,D,rfl,B,R,p,o,g,a)
 | ne=>show Z04 t r true c s f w.H x y v u Q I m k (w,M,_,_,D,rfl,B,R,p,o,g,a)
 | is=>
  cases E with
  | non=>
   cases F with
   | non=>cases Zq.mp p;cases Zq.mp o;show Pd c s f w.H _ _ v u Q I m k (rfl,a _ g)
   | bl b=>cases Xn.mp p;cases Zq.mp o;show Pd c s f w.H _ _ v u Q I m k (rfl,a _ g)
   | int i=>cases Z9.mp p;cases Zq.mp o;show Pd c s f w.H _ _ v u Q I m k (rfl,a _ g)
   | str z=>cases Zw.mp p;cases Zq.mp o;show Pd c s f w.H _ _ v u Q I m k (rfl,a _ g)
   | tup l=>let(_,_,rfl,_):=Yd.mp p;cases Zq.mp o;show Pd c s f w.H _ _ v u Q I m k (rfl,a _ g)
   | ref n=>let(_,rfl):=Ze.mp p;cases Zq.mp o;show Pd c s f w.H _ _ v u Q I m k (rfl,a _ g)
   | exn e C d q=>let(rfl,_):=Fw.mp p;cases Zq.mp o;show Pd c s f w.H _ _ v u Q I m k (rfl,a _ g)
   | _=>show Dq g
  | _=>show Dq g
 | isnot=>
  cases E with
  | non=>
   cases F with
   | non=>cases Zq.mp p;cases Zq.mp o;show Vr c s f w.H _ _ v u Q I m k (rfl,a _ g)
   | bl b=>cases Xn.mp p;cases Zq.mp o;show Vr c s f w.H _ _ v u Q I m k (rfl,a _ g)
   | int i=>cases Z9.mp p;cases Zq.mp o;show Vr c s f w.H _ _ v u Q I m k (rfl,a _ g)
   | str z=>cases Zw.mp p;cases Zq.mp o;show Vr c s f w.H _ _ v u Q I m k (rfl,a _ g)
   | tup l=>let(_,_,rfl,_):=Yd.mp p;cases Zq.mp o;show Vr c s f w.H _ _ v u Q I m k (rfl,a _ g)
   | ref n=>let(_,rfl):=Ze.mp p;cases Zq.mp o;show Vr c s f w.H _ _ v u Q I m k (rfl,a _ g)
   | exn e C d q=>let(rfl,_):=Fw.mp p;cases Zq.mp o;show Vr c s f w.H _ _ v u Q I m k (rfl,a _ g)
   | _=>show Dq g
  | _=>show Dq g
 | isin=>show Bp t r false c s f w.H x y v u Q I m k (w,M,_,_,D,rfl,B,R,p,o,g,a)
 | notin=>show Bp t r true c s f w.H x y v u Q I m k (w,M,_,_,D,rfl,B,R,p,o,g,a)
end
def RKV.isEmpty{w:Vw}{a:KQ9}(h:RKV w a vs):vs.isEmpty=a.isEmpty:=by
 cases a with
 | nil=>ext h RKV;subst h;rfl
 | cons p a=>let(k,d):=p;ext h RKV;let(v,r,rfl,_):=h;rfl
def RDs.isEmpty{w:Vw}{a:LD}(h:RDs w a vs):vs.isEmpty=a.isEmpty:=by
 cases a with
 | nil=>ext h RDs;subst h;rfl
 | cons d a=>ext h RDs;let(v,r,rfl,_):=h;rfl
def S7{K:Ae}{w:Vw}{d:D}{x:V}(h:w.K=K)(R:RS w M)(r:RD w d x)(g:truD M d QD):∃k,TruV K x w.H k/\QD k:=by
 ext g truD;split at g
 .cases Zq.mp r;show(_,rfl,g)
 .cases Xn.mp r;show(_,rfl,g)
 .cases Z9.mp r;show(_,rfl,g)
 .cases Zw.mp r;show(_,(g.1,rfl),g.2)
 .let(a,c,rfl,b,e):=Yd.mp r;show(_,.inr (.inl (c,.of b,rfl)),by rw[e.isEmpty];show g)
 .let(_,rfl):=Ze.mp r;rcases g with⟨f,g1,g2⟩|⟨f,g1,g2⟩
  .let(_,c,b,e,_):=R.listL g1;rw[h] at b;show(_,.inl (c,b,rfl),by rw[e.isEmpty];show g2)
  .let(_,c,b,e):=R.dict g1;show(_,.inr (.inr (c,b,rfl)),by rw[e.isEmpty];show g2)
 .show g.elim
def Ey{w:Vw}{i:Int}{d:D}(r:RDs w xs vs)(h:atI xs i=some d):∃v,atI vs i=some v/\RD w d v:=by unfold atI at *;rw[r.length];let(j,e,c):=Option.bind_eq_some_iff.mp h;let(v,b,a):=r.get c;show(v,by rw[e];show b,a)
def C9{w:Vw}{xs:LD}{vs:LV}{lo hi:Option Int}(r:RDs w xs vs):RDs w (cutD xs lo hi) (cutV vs lo hi):=by unfold cutD cutV;rw[r.length];show(r.drop _).take _
section
variable{X:Cx}{w0:Vw}
def Yb1(t:X.A.units+1<cLine):IxR X (λx y H Q=>∃a v,x= .ref a/\DGet H a y (some v)/\Q v H):=by
 intro d e c s l H x y v u Q I p o h z;let(a,n,rfl,g,q):=h;cases p;have m:=Cs I g;have j:⇑X (getItem (.ref a) u) (EP X c l Q) X.xe s:=Zl9 t I g o λC D B k=>(n,H,B,k,q);ext subscriptTail;show Ac ?_;rw[getitemInPython_of_ne m.not_modules];show Ac (wpAny_specialOf m PySem.F.slot_dict_getitem.lookup ?_);have f:⇑X (subscripted e false (.ref a) u) (λr b=>⇑X (letTemporaryGo d (.ref a) r >>=λ_=>pure r) (EP X c l Q) X.xe b) X.xe s:=by rw[z];show wpAny_operating (Hl j (λr b i=>Ac (wpAny_letTemporaryGo (Ao i))) λ_ _ x=>x)
 first
  | show Ao (Ac f)
  | show Ac (Ao (Ac f))
  | show Ac f
def rX(w0:Vw):R2:=λx y H Q=>∃w M b a c,w.H=H/\w.K=w0.K/\RS w M/\RD w b x/\RD w a y/\ixD M b a c/\∀d v,c d->RD w d v->Q v H
def Zv9(G:X.K=w0.K)(S:X.A.units+64<cLine):IxR X (rX w0):=by
 intro b e f s n H x y v u Q I z t h C;let(w,M,U,T,W,rfl,J,R,D,B,g,a):=h;ext g ixD;split at g
 .let(_,rfl):=Ze.mp D;rcases g with⟨P,i,d,rfl,g1,g2,g3⟩|⟨O,k,d,g1,g2,g3,g4⟩
  .cases Z9.mp B;let(_,l,j,m,_):=R.listL g1;rw[J,<-G] at j;let(r,q,o):=Ey m g2;show Y75 b e f s n w.H _ _ v u Q I z t (_,l,i,r,rfl,rfl,j,q,a _ _ g3 o) C
  .let(l,j,m):=R.dictF g1;cases R6 g2 B;rcases m.val k with⟨E,F⟩|⟨V,L,E,F,N⟩
   .rw[E] at g3;cases g3
   .rw[E] at g3;cases g3;show Yb1 'o' b e f s n w.H _ _ v u Q I z t (_,L,rfl,?_,a _ _ g4 N) C;have:DGet w.H (w.μ _) (kV k) (valV l k):= .inl (l,k,j,rfl,rfl);rwa[F] at this
 .cases Z9.mp B;let(p,l,rfl,j,m):=Yd.mp D;let(d,g1,g2):=g;let(r,q,o):=Ey m g1;show Y37 b e f s n w.H _ _ v u Q I z t (_,l,_,r,rfl,rfl,.of j,q,a _ _ g2 o) C
 .cases Z9.mp B;let(p,l,rfl,j,m):=Pj.mp D;rw[J,<-G] at j;let(d,g1,g2):=g;let(r,q,o):=Ey m g1;show Y37 b e f s n w.H _ _ v u Q I z t (_,l,_,r,rfl,rfl,j,q,a _ _ g2 o) C
 .cases Z9.mp B;cases Zw.mp D;let(g0,c,g1,g2):=g;show Ym8 b e f s n w.H _ _ v u Q I z t (_,_,c,rfl,rfl,g0,g1,a _ _ g2 (Zw.mpr rfl)) C
 .show g.elim
def Yq4:SlR X (λx lo hi H Q=>∃z,x= .str z/\z.length<=sizeLine/\Q (.str (Txt.slice z lo hi)) H):=by
 intro b s f H x v m g lo hi n Q I o y p e h;let(z,rfl,r,q):=h;let(t,rfl):=o;have a:∀l u:Option (Int×Tok),l.map (·.1)=lo->u.map (·.1)=hi->m=partValue l->g=partValue u->⇑X (getItem (.str z t) (.ref n)) (EP X b f Q) X.xe s:=by intro l u E D C B;subst E D C B;show wpAny_getItem_str_slice (l:=l) (u:=u) (st:=none) y rfl ?_;show post_val_or_str (ni (Txt.slice_le z _ _) r,λG k=>(.str (Txt.slice z _ _),H,I.tok _,(_,rfl),q))
 show("str",_,PySem.F.slot_str_getitem.lookup,typeIs_str _ _ _,?_);cases p with
 | none=>
  cases e with
  | none=>show a none none rfl rfl rfl rfl
  | int j c=>show a none (some #v[j,c]) rfl rfl rfl rfl
 | int i d=>
  cases e with
  | none=>show a (some #v[i,d]) none rfl rfl rfl rfl
  | int j c=>show a (some #v[i,d]) (some #v[j,c]) rfl rfl rfl rfl
def rSl(w0:Vw):V->Option Int->Option Int->Hp->VK->Prop:=λx c d H Q=>∃w M a b,w.H=H/\w.K=w0.K/\RS w M/\RD w a x/\slD a c d M b/\Aft w b Q
def Zz1(B:X.K=w0.K):SlR X (rSl w0):=by
 intro b s e H x v m k z A n Q I o u r q h;let(w,M,E,F,rfl,C,R,t,g,a):=h;ext g slD;split at g
 .cases Zw.mp t;show Yq4 b s e w.H _ v m k _ _ n Q I o u r q (_,rfl,g.1,a _ w _ M (Ext.refl w) R (Zw.mpr rfl) g.2)
 .let(_,rfl):=Ze.mp t;let(D,g1,g2):=g;let(_,l,d,c,_):=R.listL g1;rw[C,<-B] at d;show Yc9 b s e w.H _ v m k _ _ n Q I o u r q (_,l,rfl,d,λp y=>?_);let(j,i,f):=Yl R y (C9 (lo:=z) (hi:=A) c);show a _ _ _ _ j i f g2
 .let(p,l,rfl,d,c):=Yd.mp t;show Y25 b s e w.H _ v m k _ _ n Q I o u r q (_,l,rfl,.of d,by rw[c.length];show g.1,λp y=>?_);let(j,i,f):=Vv R y (C9 (lo:=z) (hi:=A) c);show a _ _ _ _ j i f g.2
 .show g.elim
def rC(w0:Vw)(g:LD->Z2->DK->Prop):LV->Hp->VK->Prop:=λc H Q=>∃w M a b,w.H=H/\w.K=w0.K/\RS w M/\RDs w a c/\g a M b/\Aft w b Q
def bfOf:Bf->Str×Uh
 | .len=>#v["len",.builtin "len"] | .isinst=>#v["isinstance",.builtin "isinstance"] | .min2=>#v["min",.builtin "min"] | .max2=>#v["max",.builtin "max"]
 | .list1=>#v["list",.type "list"] | .tuple1=>#v["tuple",.type "tuple"] | .dict1=>#v["dict",.type "dict"] | .sortedL=>#v["sorted",.builtin "sorted"]
def rds1{w:Vw}{d:D}(h:RDs w [d] xs):∃v,xs=[v]/\RD w d v:=by ext h RDs;let(v,r,rfl,b,a):=h;ext a RDs;subst a;show(v,rfl,b)
def rds2{w:Vw}{d e:D}(h:RDs w [d,e] xs):∃v u,xs=[v,u]/\RD w d v/\RD w e u:=by ext h RDs;let(v,r,rfl,c,b):=h;let(u,rfl,a):=rds1 b;show(v,u,rfl,c,a)
def rds0{w:Vw}(h:RDs w [] xs):xs=[]:=by ext h RDs;show h
def Zh9{w:Vw}:∀{b:List Uj} {vs:LV},RDs w (b.map D.cls) vs->vs=b.map V.ref
 | [],vs,h=>rds0 h
 | a::r,vs,h=>by rw[Az] at h;ext h RDs;let(v,c,rfl,e,d):=h;rw[N6.mp e,Zh9 d];rfl
def Yr3(K:Ae):LV->Hp->VK->Prop:=λd H Q=>∃(e C a:Uj) (f:List (Str×V)) (p:Uj) (c:List Uj) (b:Bool),d=[.ref e,.ref p]/\H e=some (XO e (.ref C) (some a))/\H a=some (.xd f)/\ExcIs K C/\H p=some (.tup (c.map V.ref))/\PySem.W.kitAny K (.ref C) (c.map Value.ref)=some b/\Q (.bl b) H
def Tl:∀{b:List Uj} {us:LW},Vals (b.map V.ref) us->us=b.map Value.ref
 | [],us,h=>by cases h;rfl
 | a::r,us,h=>by
  cases h with
  | cons d c=>obtain rfl:_=Value.ref a:=d;rw[Tl c];rfl
def Zf6:Xm X (.builtin "isinstance") (Yr3 X.K):=by intro a s w H x y Q I r h;let(e,C,M,L,p,N,b,rfl,m,o,S,l,k,q):=h;let(u,v,rfl,f,d):=Ct r;obtain rfl:u=Value.ref e:=f;obtain rfl:v=Value.ref p:=d;let(B,D,F,J,_):=By I m o;let(j,g,((E,i,t,A),g1,g2,n,g3),G):=I.tuple (.of l);cases Tl g;dsimp only at g2 g3;subst g2 g3;show PySem.W.kia_tup (Z40 S) I.kIn J g1 k (λz=>nomatch z) λc=>(.bl b,H,I.tok c,rfl,q)
def Qy{w:Vw}:∀{a:List Int} {vs:LV},RDs w (a.map .int) vs->vs=a.map V.int
 | [],vs,h=>rds0 h
 | n::a,vs,h=>by rw[Az] at h;ext h RDs;let(v,r,rfl,c,b):=h;cases Z9.mp c;rw[Qy b];rfl
def Yn0{K:Ae}{w:Vw}{d:D}{x:V}{t:String}(R:RS w M)(r:RD w d x)(h:tyD M d=some t):TyOf K w.H x (.type t):=by
 ext h tyD;split at h
 .cases h;cases Zq.mp r;show .non
 .cases h;cases Xn.mp r;show .bl _
 .cases h;cases Z9.mp r;show .int _
 .cases h;cases Zw.mp r;show .str _
 .cases h;let(a,b,rfl,q,_):=Yd.mp r;show .tup q
 .let(_,rfl):=Ze.mp r;split at h
  .rename_i e;cases h;let(b,q,_):=R.cell _ _ e;show .lst q
  .cases h
  .rename_i e;cases h;let(b,q,_):=R.cell _ _ e;show .dK q
  .cases h
  .cases h
 .cases h
def Zb1:Xm X (.type "dict") (λxs H Q=>∃a kvs,xs=[V.ref a]/\H a=some (.dK kvs)/\∀p,H p=none->Q (.ref p) (upd H p (.dK kvs))):=by intro b s g H xs i Q I r h;let(a,kvs,rfl,e,q):=h;let(u,rfl,c):=Vz r;cases c;show Zt4 I (.inl e) λp j d f=>(.ref p,_,f,rfl,q p d)
def Z15{w:Vw}:∀{ps:KQ9} {vs:LV},RDs w (Ys ps) vs->∃qs,Gn w.K w.H vs qs/\RKV w ps qs
 | [],vs,h=>by
  cases vs with
  | nil=>show([],trivial,by ext RKV;rfl)
  | cons _ _=>have:=h.length;simp[Ys] at this
 | p::ps,vs,h=>by
  change RDs w (D.tup [kD p.1,p.2]::Ys ps) vs at h;ext h RDs;let(v,o,rfl,j,g):=h;let(t,q,rfl,l,k):=Yd.mp j;let(d,b,rfl,a,f):=rds2 k;let(qs,n,m):=Z15 g;have e:d=kV p.1:=by
   cases c:p.1 with
   | inl i=>rw[c] at a;show Z9.mp a
   | inr x=>rw[c] at a;show Zw.mp a
  subst e;show(#v[p.1,b]::qs,((t,rfl,.of l),n),by ext RKV;show(b,qs,rfl,f,m))
def Z37{w:Vw}:∀{ps:KQ9} {qs:List (Key×V)} {a:KQ9} {vs:List (Key×V)},RKV w ps qs->RKV w a vs->RKV w (ps.foldl (λm p=>putD m p.1 p.2) a) (qs.foldl (λm p=>putK m p.1 p.2) vs)
 | [],qs,a,vs,h,g=>by ext h RKV;subst h;show g
 | p::ps,qs,a,vs,h,g=>by ext h RKV;let(v,r,rfl,c,b):=h;rw[Mp,Mp];show Z37 (ps:=ps) (qs:=r) b (RKV.put (k:=p.1) c g)
def Sd:Bf->Bool
 | .min2 | .max2 | .dict1=>false
 | _=>true
def Z47{w:Vw}:∀a:List Int,RDs w (a.map .int) (a.map V.int)
 | []=>RDs.nil w
 | n::a=>RDs.cons (Z9.mpr rfl) (Z47 a)
def Z34{w:Vw}:∀{ks:List Key} {vs:LV},RDs w (ks.map kD) vs->vs=ks.map kV
 | [],vs,h=>rds0 h
 | k::ks,vs,h=>by
  rw[Az] at h;ext h RDs;let(v,r,rfl,a,b):=h;rw[Z34 b];cases k with
  | inl i=>cases Z9.mp a;rfl
  | inr x=>cases Zw.mp a;rfl
def Zr4(E:X.K=w0.K)(b:Bf)(P:X.calm=true\/Sd b=true):Xm X (bfOf b).2 (rC w0 (bfD w0.K b)):=by
 intro c s m H G o Q I r h;let(w,M,ds,QD,rfl,N,R,q,g,a):=h;cases b with
 | len=>
  let(x,rfl,g2):=W8 g;clear g;have g:=g2;cases x with
  | ref n=>
   let(v,rfl,k):=rds1 q;let(_,rfl):=Ze.mp k;rcases g with⟨G,g1,g2⟩|⟨G,g1,g2⟩
   .let(_,f,d,e,_):=R.listL g1;rw[N,<-E] at d;show R9 c s m w.H _ o Q I r (_,f,rfl,.inl d,a _ w _ M (Ext.refl w) R (Z9.mpr (by rw[e.length])) g2)
   .let(_,f,d,e):=R.dict g1;show Zn8 c s m w.H _ o Q I r (_,f,rfl,d,a _ w _ M (Ext.refl w) R (Z9.mpr (by rw[e.length])) g2)
  | tup l=>let(v,rfl,k):=rds1 q;let(p,f,rfl,d,e):=Yd.mp k;show R9 c s m w.H _ o Q I r (_,f,rfl,.inr (.of d),a _ w _ M (Ext.refl w) R (Z9.mpr (by rw[e.length])) g)
  | str z=>let(v,rfl,k):=rds1 q;cases Zw.mp k;show Ga c s m w.H _ o Q I r (_,rfl,g.1,a _ w _ M (Ext.refl w) R (Z9.mpr rfl) g.2)
  | _=>show Dq g
 | isinst=>
  let(x,y,rfl,g2):=Jp g;clear g;have g:=g2;let(v,u,rfl,k,F):=rds2 q;ext g isD;split at g
  .let(b,g1,g2,g3):=g;let(rfl,d,J,e,T):=Fw.mp k;cases N6.mp F;rw[<-E] at g1 g2;show Bc c s m w.H _ o Q I r (_,_,_,_,_,_,b,rfl,d,e,g1,λu O=>O,g2,a _ w _ M (Ext.refl w) R (Xn.mpr rfl) g3)
  .let(b,g1,g2,g3):=g;let(rfl,d,J,e,T):=Fw.mp k;cases Ya2.mp F;rw[<-E] at g1 g2;show Bc c s m w.H _ o Q I r (_,_,_,_,_,_,b,rfl,d,e,g1,λu O=>O,g2,a _ w _ M (Ext.refl w) R (Xn.mpr rfl) g3)
  .let(as,b,rfl,g1,g2,g3):=g;let(rfl,d,J,e,T):=Fw.mp k;let(p,f,rfl,Z,Y):=Yd.mp F;cases Zh9 Y;rw[<-E] at g1 g2;show Zf6 c s m w.H _ o Q I r (_,_,_,_,_,_,b,rfl,d,e,g1,Z,g2,a _ w _ M (Ext.refl w) R (Xn.mpr rfl) g3)
  .let(t,b,g1,g2,g3):=g;cases Ya2.mp F;rw[<-E] at g2;show Zp8 c s m w.H _ o Q I r (_,_,_,b,rfl,Yn0 R k g1,g2,a _ w _ M (Ext.refl w) R (Xn.mpr rfl) g3)
  .show g.elim
 | min2=>let(x,y,rfl,g2):=Jp g;clear g;have g:=g2;let(i,j,rfl,rfl,g2):=Yg g;clear g;have g:=g2;let(v,u,rfl,k,F):=rds2 q;cases Z9.mp k;cases Z9.mp F;show Zg3 (P.resolve_right (by simp[Sd])) c s m w.H _ o Q I r (_,_,rfl,a _ w _ M (Ext.refl w) R (Z9.mpr rfl) g)
 | max2=>let(x,y,rfl,g2):=Jp g;clear g;have g:=g2;let(i,j,rfl,rfl,g2):=Yg g;clear g;have g:=g2;let(v,u,rfl,k,F):=rds2 q;cases Z9.mp k;cases Z9.mp F;show Zc5 (P.resolve_right (by simp[Sd])) c s m w.H _ o Q I r (_,_,rfl,a _ w _ M (Ext.refl w) R (Z9.mpr rfl) g)
 | list1=>
  let(x,rfl,g2):=W8 g;clear g;have g:=g2;let(v,rfl,k):=rds1 q;let(G,g1,g2):=g;have:∃p f,v= .ref p/\(SqL X.K w.H p f\/SqT X.K w.H p f)/\RDs w G f:=by
   rw[E,<-N];ext g1 B3;split at g1
   .let(_,rfl):=Ze.mp k;let(_,f,d,e,_):=R.listL g1;show(_,f,rfl,.inl d,e)
   .cases g1;let(p,f,rfl,d,e):=Yd.mp k;show(_,f,rfl,.inr (.of d),e)
   .cases g1;let(p,f,rfl,d,e):=Pj.mp k;show(_,f,rfl,.inr d,e)
   .cases g1
  let(p,f,rfl,d,e):=this;show Gv c s m w.H _ o Q I r (p,f,rfl,d,λl D=>?_);let(C,B,A):=Yl R D e;show a _ _ _ _ C B A g2
 | tuple1=>
  let(x,rfl,g2):=W8 g;clear g;have g:=g2;let(v,rfl,k):=rds1 q;split at g
  .let(p,f,rfl,d,e):=Yd.mp k;show Tp c s m w.H _ o Q I r (_,f,rfl,.inr (.of d,a _ _ _ _ (Ext.refl _) R k g))
  let(n,rfl,g2):=Y4 g;clear g;have g:=g2;let(_,rfl):=Ze.mp k;let(G,g1,g2):=g;let(_,f,d,e,_):=R.listL g1;rw[N,<-E] at d;show Tp c s m w.H _ o Q I r (_,f,rfl,.inl (d,λl D=>?_));let(C,B,A):=Vv R D e;show a _ _ _ _ C B A g2
 | dict1=>
  let(x,rfl,g2):=W8 g;clear g;have g:=g2;let(n,rfl,g2):=Y4 g;clear g;have g:=g2;let(v,rfl,k):=rds1 q;let(_,rfl):=Ze.mp k;rcases g with⟨G,g1,g2⟩|⟨ps,g1,g2,g3⟩
  .let(_,f,d,e):=R.dict g1;show Zb1 c s m w.H _ o Q I r (_,f,rfl,d,λl D=>?_);let(C,B,A):=Q8 R D e;show a _ _ _ _ C B A g2
  .let(_,f,d,e,_):=R.listL g1;let(W,S,V):=Z15 e;have L:=e.length;ext L Ys;rw[Ai] at L;rw[N,<-E] at d S;show Z69 (P.resolve_right (by simp[Sd])) c s m w.H _ o Q I r (_,f,W,rfl,d,S,'o',λl D=>?_);let(C,B,A):=Q8 R D (Z37 V (show RKV w [] [] by ext RKV;rfl));show a _ _ _ _ C B A g3
 | sortedL=>let(x,rfl,g2):=W8 g;clear g;have g:=g2;let(n,rfl,g2):=Y4 g;clear g;have g:=g2;let(v,rfl,k):=rds1 q;let(_,rfl):=Ze.mp k;let(ns,g1,g2,g3):=g;let(_,f,d,e,_):=R.listL g1;cases Qy e;rw[N,<-E] at d;show Fb c s m w.H _ o Q I r (_,ns,rfl,d,g2,λl U D h1 h2=>?_);let(C,B,A):=Yl R D (Z47 U);show a _ _ _ _ C B A (g3 U h1 h2)
end
def mtT:Mt->String
 | .append | .pop0 | .clear | .reverse | .index1 | .extend=>"list"
 | .get2=>"dict"
def mtN:Mt->Str
 | .append=>"append" | .pop0=>"pop" | .clear=>"clear" | .reverse=>"reverse" | .index1=>"index" | .extend=>"extend" | .get2=>"get"
def mtI:Mt->String
 | .append=>"list.append" | .pop0=>"list.pop" | .clear=>"list.clear" | .reverse=>"list.reverse" | .index1=>"list.index" | .extend=>"list.extend" | .get2=>"dict.get"
def Yh7:∀m:Mt,PlainAttrs (mtT m)
 | .append | .pop0 | .clear | .reverse | .index1 | .extend=>PySem.F.plainAttrs_list
 | .get2=>PySem.F.plainAttrs_dict
def Zl8:∀m:Mt,Slot (mtT m) (mtN m) (mtI m)
 | .append=>PySem.F.slot_list_append | .pop0=>PySem.F.slot_list_pop | .clear=>PySem.F.slot_list_clear | .reverse=>PySem.F.slot_list_reverse | .index1=>PySem.F.slot_list_index | .extend=>PySem.F.slot_list_extend
 | .get2=>PySem.F.slot_dict_get
def Ym5:∀m:Mt,typeOf (.builtin (mtI m))=pure (.type "method_descriptor")
 | .append=>PySem.F.type_list_append | .pop0=>PySem.F.type_list_pop | .clear=>PySem.F.type_list_clear | .reverse=>PySem.F.type_list_reverse | .index1=>PySem.F.type_list_index | .extend=>PySem.F.type_list_extend
 | .get2=>PySem.F.type_dict_get
def rM(w0:Vw)(m:Mt):V->LV->Hp->VK->Prop:=λx d H Q=>∃w M a b c,w.H=H/\w.K=w0.K/\RS w M/\RD w a x/\RDs w b d/\mtD m a b M c/\Aft w c Q
def Y22{w:Vw}{d:D}{x:V}(R:RS w M)(r:RD w d x)(h:mtK m d M):tyV w.K (mtT m) x w.H:=by
 have L:∀{n:Nat},RD w (.ref n) x->(readL M n).isSome=true->tyV w.K "list" x w.H:=by intro n r h;let(_,rfl):=Ze.mp r;let(c,e):=Option.isSome_iff_exists.mp h;let(_,a,b,_):=R.listL e;show .inl (rfl,a,b)
 have K:∀{n:Nat},RD w (.ref n) x->(Y7 M n).isSome=true->tyV w.K "dict" x w.H:=by intro n r h;let(_,rfl):=Ze.mp r;let(c,e):=Option.isSome_iff_exists.mp h;let(_,a,b,_):=R.dict e;show .inr (.inr (.inl (rfl,.inl (a,b))))
 let(n,rfl,h):=Y4 h;cases m with
 | get2=>show K r h
 | _=>show L r h
def RDs.dropLast{w:Vw}(r:RDs w xs vs):RDs w xs.dropLast vs.dropLast:=by rw[List.dropLast_eq_take,List.dropLast_eq_take,r.length];show r.take _
section
variable{X:Cx}{w0:Vw}
def Zr1(hK:X.K=w0.K)(Y:X.A.units+64<cLine)(m:Mt):MtR X (mtI m) (rM w0 m):=by
 intro b s F H x xs v G Q I t r h;let(w,M,dx,q,QD,rfl,e0,R,B,C,g,a):=h;let(n,rfl,g2):=Y4 g;clear g;have g:=g2;cases m with
 | append=>let(x,rfl,g2):=W8 g;clear g;have g:=g2;let(_,rfl):=Ze.mp B;let(y,rfl,o):=rds1 C;let(q,g1,g2,g3):=g;let(i,f,e,c):=R.list g1;let(l,p):=Yr R i e (c.append (RDs.cons o (RDs.nil w)));show Gb b s F w.H _ _ v G Q I t r (_,f,y,rfl,rfl,e,by rw[c.length];show g2,a _ _ _ _ l p (Zq.mpr rfl) g3)
 | index1=>
  let(x,rfl,g2):=W8 g;clear g;have g:=g2;let(_,rfl):=Ze.mp B;let(y,rfl,o):=rds1 C;let(q,k,z,g1,L,Z,g2,g4,g5,g3):=g;let(i,f,e,c,_):=R.listL g1;rw[e0,<-hK] at e;let(zv,O,N):=c.get g2;have fl:=(Zk6 L o Z c).2;have fz:∀{u:D} {j:Nat},q[j]?=some u->Zv u=true:=fun{u j} h=>by rw[Ia] at Z;show Z _ (Am h)
  show Y07 b s F w.H _ _ v G Q I t r (_,f,y,k,zv,rfl,rfl,e,W1 L o,fl,O,?_,?_,a _ w _ M (Ext.refl w) R (Z9.mpr rfl) g3)
  .rw[Qh (fz g2) L N o];show g4
  .intro j u hj Y;have E:j<q.length:=by rw[<-c.length];show(Ab.mp Y).1
   let(u',w1,w2):=c.get (Aa E);rw[Y] at w1;cases w1;rw[Qh (fz (Aa E)) L w2 o];show g5 j _ hj (Aa E)
 | get2=>
  let(x,y,rfl,g2):=Jp g;clear g;have g:=g2;let(_,rfl):=Ze.mp B;let(y,z,rfl,o,rz):=rds2 C;let(z0,k,g1,g2,g3):=g;let(i,f,e,c):=R.dict g1;let(u,u2,rfl,ru,T):=Ct r;cases (show v=Value.ref _ from t);cases R6 g2 o;show Yg8 'o' I (DGet.k (k:=k) e) ru T λw' s' I' S=>(_,w.H,I',S,?_);rcases c.val k with⟨W,V⟩|⟨d',v',W,V,n3⟩
  .rw[W] at g3;rw[V];show a _ w _ M (Ext.refl w) R rz g3
  .rw[W] at g3;rw[V];show a _ w _ M (Ext.refl w) R n3 g3
 | pop0=>let(rfl,g2):=G2 g;clear g;have g:=g2;let(_,rfl):=Ze.mp B;cases rds0 C;let(q,d,g1,g2,g3):=g;let(i,f,e,c):=R.list g1;let(y,O,N):=c.get g2;let(l,p):=Yr R i e c.dropLast;show Yj9 b s F w.H _ _ v G Q I t r (_,f,y,rfl,rfl,e,by rw[c.length];show O,a _ _ _ _ l p (N.ext l) g3)
 | clear=>let(rfl,g2):=G2 g;clear g;have g:=g2;let(_,rfl):=Ze.mp B;cases rds0 C;let(q,g1,g3):=g;let(i,f,e,c):=R.list g1;let(l,p):=Yr R i e (RDs.nil w);show Zq7 b s F w.H _ _ v G Q I t r (_,f,rfl,rfl,e,a _ _ _ _ l p (Zq.mpr rfl) g3)
 | reverse=>let(rfl,g2):=G2 g;clear g;have g:=g2;let(_,rfl):=Ze.mp B;cases rds0 C;let(q,g1,g3):=g;let(i,f,e,c):=R.list g1;let(l,p):=Yr R i e c.reverse;show Z94 b s F w.H _ _ v G Q I t r (_,f,rfl,rfl,e,a _ _ _ _ l p (Zq.mpr rfl) g3)
 | extend=>let(x,rfl,g2):=W8 g;clear g;have g:=g2;let(m2,rfl,g2):=Y4 g;clear g;have g:=g2;let(_,rfl):=Ze.mp B;let(y,rfl,o):=rds1 C;let(_,rfl):=Ze.mp o;let(q,es,g1,g2,g4,g3):=g;let(i,f,e,c):=R.list g1;let(y0,P,U,J):=R.list g2;let(l,p):=Yr R i e (c.append J);show Ze0 b s F w.H _ _ v G Q I t r (_,_,f,P,rfl,rfl,e,U,by rw[c.length,J.length];show g4,a _ _ _ _ l p (Zq.mpr rfl) g3)
end
def gF(w0:Vw)(g:LQ):TG:=λv f H Q=>∃w b M d e,StOk w0 w b M f H/\RD w d v/\tgD g d b e/\∀c a,REnv w a c->e a->Q c H
def gAll:LQ->TGs
 | []=>gNil
 | i::a=>Yp8 (Zo0 i) (gAll a)
def B4{w:Vw}{H:Hp}{Q:L2.St->Hp->Prop}{QD:DEnv->Prop}(k:∀h b,REnv w b h->QD b->Q h H):∀(g:LQ) {f:LD} {vs:LV} {c:L2.St} {a:DEnv},RDs w f vs->f.length=g.length->REnv w a c->
  QD ((g.zip f).foldl (λc p=>c.set p.1 (some p.2)) a)->gAll g vs c H Q
 | [],f,vs,c,a,r,j,e,q=>by cases Du.mp j;cases rds0 r;show(rfl,k _ _ e q)
 | i::g,f,vs,c,a,r,j,e,q=>by
  cases f with
  | nil=>simp at j
  | cons d f=>ext r RDs;let(v,l,rfl,n,m):=r;show(v,l,rfl,?_);change gAll g l (c.set i (some v)) H Q;show B4 k g m ↥j (e.set i n) q
section
variable{X:Cx}{w0:Vw}
def PG.imp{t t':TG}(h:PG X e t)(k:∀v a H Q,t' v a H Q->t v a H Q):PG X e t':=λb s a H v u Q I r q=>h b s a H v u Q I r (k v a H Q q)
def Yn6{i:Nat}(h:PG X e (Zo0 i)):PG X e (gF w0 [i]):=PG.imp h λv b H Q zz=>by let(w,a,M,d,c,S,r,g,k):=zz;show k _ _ (S.env.set i r) g
def Y85{b:LQ}(l:2<=b.length)(h:PG X e (gTup X.K b.length (gAll b))):PG X e (gF w0 b):=PG.imp h λv m H Q zy5=>by
 let(w,i,M,d,n,S,r,g,k):=zy5;ext g tgD;split at g
 .simp at l
 .let(a,j,rfl,f,c):=Yd.mp r;let(g1,g2):=g;rw[S.heap] at f;show(a,j,rfl,.of f,by rw[c.length];show g1,B4 k b c g1 S.env g2)
 .show g.elim
end
structure Ck where
 N:LS
 sc:Scope
 FN:LS
 GN:LS
 BN:LS
 loops:Bool
 calm:Bool
 tries:Bool
 raises:LQ
 cells:Bool
 own:LS
def Xp(scope:Scope):LS:=(scope.names.filter λy=>y.2== .cell).map (·.1)
def Ck.vis(k:Ck)(x:Str):Bool:=(k.sc.names.lookup x==some .local || k.sc.names.lookup x==some .cell || k.sc.names.lookup x==some .free)&&!(x==("__debug__":Str))&&!(x==("__classdict__":Str))
def Ck.glob(k:Ck)(x:Str):Bool:=k.sc.names.lookup x==some .globalImplicit&&!(x==("__debug__":Str))&&!(x==("__name__":Str))
def Ck.loc(k:Ck)(x:Str):Bool:=k.sc.names.lookup x==some .local
def Ck.locC(k:Ck)(x:Str):Bool:=k.loc x || ((k.cells || k.own.contains x)&&k.sc.names.lookup x==some .cell)
def Zl5:Expr->Bool
 | .Call (.Name x _) [] [] _=>x !=("super":Str)
 | _=>true
def Cv:Expr->Bool
 | .Slice ..=>false
 | _=>true
def Qb:Expr->Bool
 | .Set ..=>false
 | _=>true
def noStar:Expr->Bool
 | .Starred ..=>false
 | _=>true
def isIn:Cm->Bool
 | .isin | .notin=>true
 | _=>false
def Yg1(k:Ck):LQ->List Expr->Bool
 | [],[]=>true
 | i::a,.Name x _::b=>k.N[i]?==some x&&k.locC x&&Yg1 k a b
 | _,_=>false
def Wn(k:Ck)(a:LQ):Expr->Bool
 | .Name x _=>match a with
  | [i]=>k.N[i]?==some x&&k.locC x
  | _=>false
 | .Tuple b _ _=>k.calm&&decide (2<=a.length)&&Yg1 k a b
 | _=>false
def isM1:Expr->Bool
 | .UnaryOp .USub (.Constant (.int j) _ _) _=>j==1
 | _=>false
def itTg:It->Expr->Bool
 | .enm _,.Tuple ..=>true
 | .enm _,_=>false
 | _,_=>true
def Y6{c:Prop}[Decidable c]{F:c->Bool}(h:(if q:c then F q else false)=true):∃q:c,F q=true:=by
 by_cases q:c
 .rw[dif_pos q] at h;show(q,h)
 .rw[dif_neg q] at h;left
def Xd(a:Expr)(F:Str->Bool):Bool:=if q:a.ctorIdx=23 then Expr.Name.elim (motive_1:=λ_=>Bool) a q (λx _=>F x) else false
def Zt{a:Expr}{F:Str->Bool}(h:Xd a F=true):∃x p,a= .Name x p/\F x=true:=by let(q,h):=Y6 h;show Expr.Name.elim (motive_1:=λa=>∀q:a.ctorIdx=23,Expr.Name.elim (motive_1:=λ_=>Bool) a q (λx _=>F x)=true->∃x p,a= .Name x p/\F x=true) a q (λx p _ h=>(x,p,rfl,h)) q h
def Qa(a:Expr)(F:Const->Bool):Bool:=if q:a.ctorIdx=19 then Expr.Constant.elim (motive_1:=λ_=>Bool) a q (λv _ _=>F v) else false
def Wa{a:Expr}{F:Const->Bool}(h:Qa a F=true):∃v j p,a= .Constant v j p/\F v=true:=by let(q,h):=Y6 h;show Expr.Constant.elim (motive_1:=λa=>∀q:a.ctorIdx=19,Expr.Constant.elim (motive_1:=λ_=>Bool) a q (λv _ _=>F v)=true->∃v j p,a= .Constant v j p/\F v=true) a q (λv j p _ h=>(v,j,p,rfl,h)) q h
def Yk8(a:Expr)(F:Expr->Operator->Expr->Bool):Bool:=if q:a.ctorIdx=2 then Expr.BinOp.elim (motive_1:=λ_=>Bool) a q (λl o r _=>F l o r) else false
def Zi7{a:Expr}{F:Expr->Operator->Expr->Bool}(h:Yk8 a F=true):∃l o r p,a= .BinOp l o r p/\F l o r=true:=by let(q,h):=Y6 h;show Expr.BinOp.elim (motive_1:=λa=>∀q:a.ctorIdx=2,Expr.BinOp.elim (motive_1:=λ_=>Bool) a q (λl o r _=>F l o r)=true->∃l o r p,a= .BinOp l o r p/\F l o r=true) a q (λl o r p _ h=>(l,o,r,p,rfl,h)) q h
def onUn(a:Expr)(F:UnaryOp->Expr->Bool):Bool:=if q:a.ctorIdx=3 then Expr.UnaryOp.elim (motive_1:=λ_=>Bool) a q (λo l _=>F o l) else false
def Z38{a:Expr}{F:UnaryOp->Expr->Bool}(h:onUn a F=true):∃o l p,a= .UnaryOp o l p/\F o l=true:=by let(q,h):=Y6 h;show Expr.UnaryOp.elim (motive_1:=λa=>∀q:a.ctorIdx=3,Expr.UnaryOp.elim (motive_1:=λ_=>Bool) a q (λo l _=>F o l)=true->∃o l p,a= .UnaryOp o l p/\F o l=true) a q (λo l p _ h=>(o,l,p,rfl,h)) q h
def Yo0(a:Expr)(F:Expr->(List CmpOp)->(List Expr)->Bool):Bool:=if q:a.ctorIdx=15 then Expr.Compare.elim (motive_1:=λ_=>Bool) a q (λl c b _=>F l c b) else false
def Zc3{b:Expr}{F:Expr->(List CmpOp)->(List Expr)->Bool}(h:Yo0 b F=true):∃l os a p,b= .Compare l os a p/\F l os a=true:=by let(q,h):=Y6 h;show Expr.Compare.elim (motive_1:=λb=>∀q:b.ctorIdx=15,Expr.Compare.elim (motive_1:=λ_=>Bool) b q (λl os a _=>F l os a)=true->∃l os a p,b= .Compare l os a p/\F l os a=true) b q (λl os a p _ h=>(l,os,a,p,rfl,h)) q h
def Y18(a:Expr)(F:BoolOp->(List Expr)->Bool):Bool:=if q:a.ctorIdx=0 then Expr.BoolOp.elim (motive_1:=λ_=>Bool) a q (λo b _=>F o b) else false
def Z73{b:Expr}{F:BoolOp->(List Expr)->Bool}(h:Y18 b F=true):∃o a p,b= .BoolOp o a p/\F o a=true:=by let(q,h):=Y6 h;show Expr.BoolOp.elim (motive_1:=λb=>∀q:b.ctorIdx=0,Expr.BoolOp.elim (motive_1:=λ_=>Bool) b q (λo a _=>F o a)=true->∃o a p,b= .BoolOp o a p/\F o a=true) b q (λo a p _ h=>(o,a,p,rfl,h)) q h
def Yi8(a:Expr)(F:(List Expr)->Bool):Bool:=if q:a.ctorIdx=24 then Expr.List.elim (motive_1:=λ_=>Bool) a q (λb _=>F b) else false
def Zf4{b:Expr}{F:(List Expr)->Bool}(h:Yi8 b F=true):∃a p,b= .List a p/\F a=true:=by let(q,h):=Y6 h;show Expr.List.elim (motive_1:=λb=>∀q:b.ctorIdx=24,Expr.List.elim (motive_1:=λ_=>Bool) b q (λa _=>F a)=true->∃a p,b= .List a p/\F a=true) b q (λa p _ h=>(a,p,rfl,h)) q h
def Ye6(a:Expr)(F:(List Expr)->Bool):Bool:=if q:a.ctorIdx=25 then Expr.Tuple.elim (motive_1:=λ_=>Bool) a q (λb _ _=>F b) else false
def F4{b:Expr}{F:(List Expr)->Bool}(h:Ye6 b F=true):∃a j p,b= .Tuple a j p/\F a=true:=by let(q,h):=Y6 h;show Expr.Tuple.elim (motive_1:=λb=>∀q:b.ctorIdx=25,Expr.Tuple.elim (motive_1:=λ_=>Bool) b q (λa _ _=>F a)=true->∃a j p,b= .Tuple a j p/\F a=true) b q (λa j p _ h=>(a,j,p,rfl,h)) q h
def Yb7(a:Expr)(F:(List (Option Expr))->(List Expr)->Bool):Bool:=if q:a.ctorIdx=6 then Expr.Dict.elim (motive_1:=λ_=>Bool) a q (λc b _=>F c b) else false
def Gp{a:Expr}{F:(List (Option Expr))->(List Expr)->Bool}(h:Yb7 a F=true):∃ks vs p,a= .Dict ks vs p/\F ks vs=true:=by let(q,h):=Y6 h;show Expr.Dict.elim (motive_1:=λa=>∀q:a.ctorIdx=6,Expr.Dict.elim (motive_1:=λ_=>Bool) a q (λks vs _=>F ks vs)=true->∃ks vs p,a= .Dict ks vs p/\F ks vs=true) a q (λks vs p _ h=>(ks,vs,p,rfl,h)) q h
def Zb3(a:Expr)(F:Expr->Expr->Bool):Bool:=if q:a.ctorIdx=21 then Expr.Subscript.elim (motive_1:=λ_=>Bool) a q (λl r _=>F l r) else false
def S3{a:Expr}{F:Expr->Expr->Bool}(h:Zb3 a F=true):∃l r p,a= .Subscript l r p/\F l r=true:=by let(q,h):=Y6 h;show Expr.Subscript.elim (motive_1:=λa=>∀q:a.ctorIdx=21,Expr.Subscript.elim (motive_1:=λ_=>Bool) a q (λl r _=>F l r)=true->∃l r p,a= .Subscript l r p/\F l r=true) a q (λl r p _ h=>(l,r,p,rfl,h)) q h
def Zq8(a:Expr)(F:(Option Expr)->(Option Expr)->(Option Expr)->Bool):Bool:=if q:a.ctorIdx=26 then Expr.Slice.elim (motive_1:=λ_=>Bool) a q (λx y z _=>F x y z) else false
def Qj{a:Expr}{F:(Option Expr)->(Option Expr)->(Option Expr)->Bool}(h:Zq8 a F=true):∃x y z p,a= .Slice x y z p/\F x y z=true:=by let(q,h):=Y6 h;show Expr.Slice.elim (motive_1:=λa=>∀q:a.ctorIdx=26,Expr.Slice.elim (motive_1:=λ_=>Bool) a q (λx y z _=>F x y z)=true->∃x y z p,a= .Slice x y z p/\F x y z=true) a q (λx y z p _ h=>(x,y,z,p,rfl,h)) q h
def Wd(b:Expr)(F:Expr->(List Expr)->(List Keyword)->Pos->Bool):Bool:=if q:b.ctorIdx=16 then Expr.Call.elim (motive_1:=λ_=>Bool) b q (λd c a p=>F d c a p) else false
def Y0{d:Expr}{F:Expr->(List Expr)->(List Keyword)->Pos->Bool}(h:Wd d F=true):∃c b a p,d= .Call c b a p/\F c b a p=true:=by let(q,h):=Y6 h;show Expr.Call.elim (motive_1:=λd=>∀q:d.ctorIdx=16,Expr.Call.elim (motive_1:=λ_=>Bool) d q (λc b a p=>F c b a p)=true->∃c b a p,d= .Call c b a p/\F c b a p=true) d q (λc b a p _ h=>(c,b,a,p,rfl,h)) q h
def Y17(a:Expr)(F:Expr->Str->Pos->Bool):Bool:=if q:a.ctorIdx=20 then Expr.Attribute.elim (motive_1:=λ_=>Bool) a q (λl g p=>F l g p) else false
def Z61{a:Expr}{F:Expr->Str->Pos->Bool}(h:Y17 a F=true):∃l g p,a= .Attribute l g p/\F l g p=true:=by let(q,h):=Y6 h;show Expr.Attribute.elim (motive_1:=λa=>∀q:a.ctorIdx=20,Expr.Attribute.elim (motive_1:=λ_=>Bool) a q (λl g p=>F l g p)=true->∃l g p,a= .Attribute l g p/\F l g p=true) a q (λl g p _ h=>(l,g,p,rfl,h)) q h
def onLC(c:Expr)(F:Expr->(List Comprehension)->Scope->Bool):Bool:=if q:c.ctorIdx=8 then Expr.ListComp.elim (motive_1:=λ_=>Bool) c q (λd b a _=>F d b a) else false
def Q2{c:Expr}{F:Expr->(List Comprehension)->Scope->Bool}(h:onLC c F=true):∃b a scope p,c= .ListComp b a scope p/\F b a scope=true:=by let(q,h):=Y6 h;show Expr.ListComp.elim (motive_1:=λc=>∀q:c.ctorIdx=8,Expr.ListComp.elim (motive_1:=λ_=>Bool) c q (λb a scope _=>F b a scope)=true->∃b a scope p,c= .ListComp b a scope p/\F b a scope=true) c q (λb a scope p _ h=>(b,a,scope,p,rfl,h)) q h
def on0{a:Type}(l:List a)(b:Bool):Bool:=match l with
 | []=>b
 | _::_=>false
def on1{a:Type}(l:List a)(F:a->Bool):Bool:=match l with
 | []=>false
 | x::r=>on0 r (F x)
def onC{a:Type}(l:List a)(F:a->List a->Bool):Bool:=match l with
 | []=>false
 | x::r=>F x r
def Yi{a:Type}{l:List a}{b:Bool}(h:on0 l b=true):l=[]/\b=true:=by
 cases l with
 | nil=>show(rfl,h)
 | cons _ _=>left
def Ye{a:Type}{l:List a}{F:a->Bool}(h:on1 l F=true):∃x,l=[x]/\F x=true:=by
 cases l with
 | nil=>left
 | cons x r=>let(rfl,h):=Yi h;show(x,rfl,h)
def Y62{a:Type}{l:List a}{F:a->List a->Bool}(h:onC l F=true):∃x r,l=x::r/\F x r=true:=by
 cases l with
 | nil=>left
 | cons x r=>show(x,r,rfl,h)
def noO{a:Type}(o:Option a)(b:Bool):Bool:=match o with
 | none=>b
 | some _=>false
def Qf{a:Type}{o:Option a}{b:Bool}(h:noO o b=true):o=none/\b=true:=by
 cases o with
 | none=>show(rfl,h)
 | some _=>left
def onZ(i:Int)(b:Bool):Bool:=match i with
 | .ofNat 0=>b
 | _=>false
def Nr{i:Int}{b:Bool}(h:onZ i b=true):i=0/\b=true:=by
 rcases i with(_|n)|n
 .exact(rfl,h)
 .left
 .left
def soO{a:Type}(o:Option a)(F:a->Bool):Bool:=match o with
 | none=>false
 | some x=>F x
def En{a:Type}{o:Option a}{F:a->Bool}(h:soO o F=true):∃x,o=some x/\F x=true:=by
 cases o with
 | none=>left
 | some x=>show(x,rfl,h)
mutual
noncomputable def chkE(k:Ck):E->Expr->Bool
 | .var i,n=>Xd n λx=>k.N[i]?==some x&&k.vis x
 | .int i,n=>Qa n λv=>match v with
  | .int j=>i==j
  | _=>false
 | .bl b,n=>Qa n λv=>match v with
  | .bool c=>b==c
  | _=>false
 | .non,n=>Qa n λv=>match v with
  | .none=>true
  | _=>false
 | .str x,n=>Qa n λv=>match v with
  | .str y=>x==y
  | _=>false
 | .ty t,n=>Xd n λx=>x==Str.ofString (Yw t)&&k.glob x&&k.BN.contains x
 | .glb g,n=>Xd n λx=>k.GN[g]?==some x&&k.glob x
 | .bin M a b,n=>Yk8 n λl o r=>o==opOf M&&chkE k a l&&chkE k b r
 | .neg a,n=>onUn n λo l=>o== .USub&&chkE k a l
 | .not a,n=>onUn n λo l=>o== .Not&&chkE k a l
 | .cmp M a b,n=>Yo0 n λl W U=>on1 W λo=>on1 U λr=>o==cmOf M&&(!isIn M || Qb r)&&chkE k a l&&chkE k b r
 | .bop b F,n=>Y18 n λo u=>o==(if b then .And else .Or)&&Vq k F u
 | .lst F,n=>Yi8 n λu=>Vq k F u
 | .tup F,n=>Ye6 n λu=>Vq k F u
 | .dict0,n=>Yb7 n λQ O=>on0 Q (on0 O true)
 | .lkeys a,n=>Wd n λD u s _=>Xd D λx=>on0 s (on1 u λl=>k.calm&&x==("list":Str)&&k.glob x&&k.BN.contains x&&noStar l&&chkE k a l)
 | .lrng a,n=>Wd n λD u s _=>Xd D λx=>on0 s (on1 u λS=>Wd S λH G B _=>Xd H λy=>on0 B (on1 G λl=>k.calm&&x==("list":Str)&&y==("range":Str)&&k.glob x&&k.glob y&&k.BN.contains x&&k.BN.contains y&&noStar l&&chkE k a l))
 | .dct a b,n=>Yb7 n λQ O=>on1 Q λq=>soO q λl=>on1 O λr=>chkE k a l&&chkE k b r
 | .ix a b,n=>Zb3 n λl r=>Cv r&&chkE k a l&&chkE k b r
 | .sl a P R,n=>Zb3 n λl r=>Zq8 r λx y z=>noO z (chkE k a l&&chkO k P x&&chkO k R y)
 | .slW a P R,n=>Zb3 n λl r=>Zq8 r λx y z=>noO z (chkE k a l&&chkO k P x&&chkO k R y)
 | .setf b a,n=>Wd n λD u s _=>Xd D λx=>on0 s (on1 u λS=>Wd S λH G B _=>Xd H λy=>on0 B (on1 G λl=>k.calm&&x==("len":Str)&&y==("set":Str)&&k.glob x&&k.glob y&&k.BN.contains x&&k.BN.contains y&&noStar l&&chkE k a l))
 | .rev a,n=>Zb3 n λl r=>Zq8 r λx y z=>noO x (noO y (soO z λz=>chkE k a l&&isM1 z))
 | .call f F,n=>Wd n λD u s _=>Xd D λx=>on0 s (k.calm&&k.FN[f]?==some x&&k.glob x&&Vq k F u)
 | .bf b F,n=>Wd n λD u s _=>Xd D λx=>on0 s (onC u λl u=>(k.calm || Sd b)&&x==(bfOf b).1&&k.glob x&&k.BN.contains x&&Vq k F (l::u))
 | .mt m o F,n=>Wd n λD u s Y=>Y17 D λl X ap=>on0 s (X==mtN m&&Zl5 l&&ap.endLine==Y.line&&decide (u.length<30)&&chkE k o l&&Vq k F u)
 | .compQ A J I d q e,n=>onLC n λK w h=>on1 w λg=>match g with
  | (t,p,C,L)=>on1 C λV=>onZ L (k.calm&&Xg k.sc k.N A J h&&Qb p&&chkE k d p&&decide A.Nodup&&Wn {k with N:=A,sc:=Y3 h k.sc,cells:=false,own:=Xp h,tries:=false,raises:=[]} I t&&chkE {k with N:=A,sc:=Y3 h k.sc,cells:=false,own:=Xp h,tries:=false,raises:=[]} q V&&noIf q&&chkE {k with N:=A,sc:=Y3 h k.sc,cells:=false,own:=Xp h,tries:=false,raises:=[]} e K)
 | .compK A J I d e,n=>onLC n λK w h=>on1 w λg=>match g with
  | (t,p,C,L)=>on0 C (onZ L (k.calm&&Xg k.sc k.N A J h&&Qb p&&chkE k d p&&decide A.Nodup&&Wn {k with N:=A,sc:=Y3 h k.sc,cells:=false,own:=Xp h,tries:=false,raises:=[]} I t&&chkE {k with N:=A,sc:=Y3 h k.sc,cells:=false,own:=Xp h,tries:=false,raises:=[]} e K))
 | .comp A J I T Z e,n=>onLC n λK w h=>on1 w λg=>match g with
  | (t,p,C,L)=>onZ L (k.calm&&Xg k.sc k.N A J h&&Qb p&&Y88 k T p&&decide A.Nodup&&
   Wn {k with N:=A,sc:=Y3 h k.sc,cells:=false,own:=Xp h,tries:=false,raises:=[]} I t&&chkC {k with N:=A,sc:=Y3 h k.sc,cells:=false,own:=Xp h,tries:=false,raises:=[]} Z C&&chkE {k with N:=A,sc:=Y3 h k.sc,cells:=false,own:=Xp h,tries:=false,raises:=[]} e K&&itTg T t)
noncomputable def Vq(k:Ck):Es->List Expr->Bool
 | .nil,[]=>true
 | .cons e r,x::a=>chkE k e x&&noStar x&&Vq k r a
 | _,_=>false
noncomputable def chkO(k:Ck):Eo->Option Expr->Bool
 | .no,none=>true
 | .yes e,some x=>chkE k e x
 | _,_=>false
noncomputable def chkC(k:Ck):Eo->List Expr->Bool
 | .no,[]=>true
 | .yes e,[x]=>chkE k e x&&noIf e
 | _,_=>false
noncomputable def Y88(k:Ck):It->Expr->Bool
 | .seq e,x=>chkE k e x
 | .rng1 a,f=>Wd f λd c b _=>Xd d λx=>on0 b (on1 c λl=>x==("range":Str)&&k.glob x&&k.BN.contains x&&noStar l&&chkE k a l)
 | .enm e,f=>Wd f λd c b _=>Xd d λx=>on0 b (on1 c λl=>x==("enumerate":Str)&&k.glob x&&k.BN.contains x&&noStar l&&chkE k e l)
noncomputable def noIf:E->Bool
 | .not a=>noIf a
 | .bop _ b=>Za2 b
 | _=>true
noncomputable def Za2:Es->Bool
 | .nil=>true
 | .cons e r=>noIf e&&Za2 r
end
def Zw8(X:Cx)(x:Str)(sp:DSp):Prop:=
 ∃(d:Nat) (f:Uj) (e:FuncData) (c:LS) (g:LW) (b:LV) (h:LD) (a:DSp),FnOk X.prog X.w X.K X.mg X.base (CX1 X.prog X.w) d f e c (spF X.K a)/\Room d X.A/\X.mg x=↑f/\Hm X.K (.ref f)=true/\
  Yo X.K e c g/\Vals b g/\(∀w:Vw,w.K=X.K->RDs w h b)/\∀i M Q Z,sp i M Q Z->a (i++h) M Q Z
def Om(K:Ae):Sp:=λb H Q _=>∃e C y,b=[V.ref e,y]/\H e=some (XN e (.ref C) none)/\ExcSet K C "row"/\∀a,H a=none->Q .non (upd (upd H a (.xd [#v["row",y]])) e (XN e (.ref C) (some a)))
def Zs1(X:Cx)(C:Uj):Prop:=∃(b:Nat) (f:Uj) (a:FuncData),ExcMk X.K C f/\FnOk X.prog X.w X.K X.mg X.base CX0 b f a ["self","row"] (Om X.K)/\Room (b+1) X.A/\Yo X.K a ["self","row"] [.none]/\Yo X.K a ["self","row"] []/\ExcSet X.K C "row"
structure Good(c:Cfg)(k:Ck)(Z:DX)(w0:Vw)(X:Cx):Prop where
 hK:X.K=c.K
 wK:w0.K=c.K
 N:X.N=k.N
 nd:X.N.Nodup
 sc:X.env.scope=k.sc
 calm:k.calm=true->X.calm=true
 units:X.A.units+64<cLine
 fns:k.calm=true->∀(f:Nat) (x:Str) (sp:DSp),k.FN[f]?=some x->c.Γ[f]?=some sp->Zw8 X x sp
 flen:k.FN.length=c.Γ.length
 glb:∀(g:Nat) (x:Str) (d:D),k.GN[g]?=some x->c.G[g]?=some d->∃v u,X.mg x=some u/\RelV v u/\∀w:Vw,w.K=X.K->RD w d v
 blt:∀x,x∈k.BN->X.mg x=none
 exc:∃E,Fo (CX1 X.prog X.w) X E/\∀cls dd H',xkOf w0 Z cls dd H'->E cls dd H'
 stk:k.tries=true->X.stack=X.env::X.outer/\X.env.frame=some X.env.locals
 rai:∀g:Nat,k.raises.contains g=true->(∃E,Leaves X E/\∀cls dd H',xkOf w0 Z cls dd H'->E cls dd H')/\∀C:Uj,c.G[g]?=some (.cls C)->Zs1 X C
 po:k.loops=true->PassesOwn (model X.prog X.w) X.A X.env X.xe
 fnc:k.cells=true->∀x,X.fn x=true
 fno:∀x,x∈k.own->X.fn x=true
def E4{w c:Vw}{a:Uh}{d:Option Uj}(x:Ext w c)(h:xkOf c Z a d H'):xkOf w Z a d H':=by let(C,l,r,e,b,M,k,j,i,g,f):=h;show(C,l,r,e,b,M,k,j,i,x.trans g,f)
def ttD(f:DE):DT:=λc M Q=>f c M λx a=>truD a x λb=>Q b a
section
variable{c:Cfg}{k:Ck}{Z:DX}{w0:Vw}{X:Cx}
def Good.gl(G:Good c k Z w0 X){x:Str}(h:k.glob x=true):Gl X x/\(x==("__debug__":Str))=false/\x≠"__name__":=by ext h Ck.glob;erw[Bz9,beq_iff_eq,Bool.not_eq_true',beq_eq_false_iff_ne] at h;show(?_,↥h.1.2,h.2);unfold Gl Env.kindOf;rw[G.sc];show h.1.1
def Good.vis(G:Good c k Z w0 X){x:Str}(h:k.vis x=true):Vis X.env.scope x/\(x==("__debug__":Str))=false/\(x==("__classdict__":Str))=false:=by
 ext h Ck.vis;erw[Bz9,beq_iff_eq,Bool.not_eq_true',Bool.or_eq_true] at h;show(?_,h.1.2,h.2);ext Vis;rw[G.sc];rcases h.1.1 with(q|q)|q
 .show .inl q
 .show .inr (.inl q)
 .show .inr (.inr q)
def Good.locC(G:Good c k Z w0 X){x:Str}(h:k.locC x=true):Loc X.env.scope x/\(X.fn x=true\/X.env.scope.names.lookup x=some .local):=by
 unfold Ck.locC Ck.loc at h;rw[Bool.or_eq_true,Bz9] at h;rcases h with h|⟨h1,h2⟩
 .have a:X.env.scope.names.lookup x=some .local:=by rw[G.sc];show Ll h
  show(.inl a,.inr a)
 .refine(.inr (by rw[G.sc];show Ll h2),.inl ?_);rw[Bool.or_eq_true,Iw] at h1;rcases h1 with z|z
  .show G.fnc z x
  .show G.fno x z
def Good.eK(G:Good c k Z w0 X):X.K=w0.K:=G.hK.trans G.wK.symm
def StOk.K{w w0:Vw}{a:DEnv}{M:Z2}{b:L2.St}{H:Hp}(S:StOk w0 w a M b H):w.K=w0.K:=S.ext.K
def Zx{d:L2.St}{w:Vw}{b:DEnv}{H:Hp}(S:StOk w0 w b M d H)(h:f b M QD)(a:Aft w QD Q):tF w0 f d H Q:=(w,b,M,QD,S,h,a)
def Gg{a:Str}(h:Zl5 l=true):attributeBase l a env (eval l env)=eval l env:=by
 cases l with
 | Call f b c p=>
  cases f with
  | Name id q=>
   cases b with
   | nil=>
    cases c with
    | nil=>show ng (by rw[show(id !=("super":Str))=true from h];rfl)
    | cons _ _=>rfl
   | cons _ _=>rfl
  | _=>rfl
 | _=>rfl
def Zo{x:Expr}(h:noStar x=true):starEach (x::xs) env=#v[false,eval x env]::starEach xs env:=by cases x<;>first | rfl | cases h
def Xv{k:Ck}:∀(es:Es) (xs:List Expr),Vq k es xs=true->(starEach xs env).all (λp=> !p.1)=true
 | .nil,[],_=>rfl
 | .nil,_::_,h=>absurd h Bf9
 | .cons e r,[],h=>absurd h Bf9
 | .cons e r,x::xs,h=>by change (_&&_)=true at h;erw[Bz9] at h;rw[Zo h.1.2];erw[Ko,Bool.not_false,Bool.true_and];show Xv r xs h.2
def Q4(h:l.all (λp=> !p.1)=true):(backTo pos l).any (·.1)=false:=by
 induction l with
 | nil=>rfl
 | cons p r a=>erw[Ko,Bz9,Bool.not_eq_true'] at h;show(p.1 || (backTo pos r).any (·.1))=false;rw[h.1,a h.2];rfl
def Zu3(h:l.all (λp=> !p.1)=true):(backTo pos l).all (λx=> !x.1)=true:=by
 induction l with
 | nil=>rfl
 | cons p r a=>erw[Ko,Bz9] at h;show((!p.1)&&(backTo pos r).all (λx=> !x.1))=true;rw[h.1,a h.2];rfl
def Yt6{i:Expr}(G:Good c k Z w0 X)(h:PE X i (tF w0 f))(p:∀e,isTrue i X.env e=(do let v <-e;standAt i.pos;holding [v] (truthy v))):PT X i (tFT w0 (ttD f)):=by show PT.imp (Zv7 h p) λt H Q zz=>?_;let(w,j,M,u,S,g,a):=zz;show Zx S g λv l d s x r o q=>?_;let(b,n,m):=S7 (K:=X.K) (by rw[x.K,S.K,G.eK]) r o q;show(b,n,a b l s x r m)
def Y64(h:PT X j (Yl1 (tF w0 f)))(n:∀e M QD,f e M QD->f e M λd i=>(∃b,d= .bl b)/\QD d i):PT X j (tFT w0 (ttD f)):=by show PT.imp h λo H Q zz=>?_;let(w,e,M,QD,S,g,a):=zz;show Zx S (n _ _ _ g) λv l d i x r m q=>?_;let((b,rfl),q):=q;cases Xn.mp m;show(b,rfl,a b l i x r q)
def Zj8{i:L2.St}{H:Hp}(h:tF w0 (λb M QD=>l b M λx m=>j b m λy f=>g x y f QD) i H Q):tOp (rF w0 g) (tF w0 l) (tF w0 j) i H Q:=by let(w,b,M,QD,S,g0,a):=h;show Zx S g0 λx z v m e r p t=>?_;show Zx (S.next e r) t λy n u f d q o s=>?_;show(n,f,v,u,QD,rfl,(S.ext.trans e).trans d,q,p.ext d,o,s,a.ext (e.trans d))
def Fm{o n:DE}{H:Hp}(h:tF w0 (λd M QD=>o d M λx p=>n d p λy e=>g e x y λb=>QD (.bl b) e) j H Q):tOp (rB w0 g) (tF w0 o) (tF w0 n) j H Q:=by let(w,d,M,QD,S,g0,a):=h;show Zx S g0 λx B A p i s r u=>?_;show Zx (S.next i s) u λy l z e f m q t=>?_;show(l,e,A,z,_,rfl,((S.ext.trans i).trans f).K,m,r.ext f,q,t,λb v=>a _ l _ e (i.trans f) m (Xn.mpr rfl) v)
def Yf2{a:Expr}{i:TE}(o:PE X a i):PE X (.UnaryOp .Not a pos) (λe H Q=>i e H λx f=>∃b,TruV X.K x f b/\Q (.bl (!b)) f):=by intro d s e H Q I h;show UnaryOp_ (thn (o d s e H _ I h) λv j zz=>?_);let(x,f,q,l,n):=zz;show not_of (thn (Z43 d j e f x v (λb g=>Q (.bl (!b)) g) q l n) λb r zz=>by let(g,p,m):=zz;show(.bl (!b),g,p,rfl,m))
def Yc5(t:Ty):bootBuiltins (Str.ofString (Yw t))=some (.type (Yw t)):=by
 cases t
 .show boot_int
 .show boot_str
 .show boot_bool
 .show boot_list
 .show boot_tuple
 .show boot_dict
 .change bootBuiltins "ValueError"=some (.type "ValueError")
  decide+kernel
def Cu:bootBuiltins "sorted"=some (.builtin "sorted"):='k'
def Zq9:bootBuiltins "set"=some (.type "set"):='k'
def Yd6(b:Bf):bootBuiltins (bfOf b).1=some (bfOf b).2:=by cases b<;>first | show PySem.boot_len | show boot_isinstance | show PyProof.Rows.boot_min | show PyProof.Rows.boot_max | show boot_list | show boot_tuple | show boot_dict | show boot_str | show Cu | show boot_int
end
def JOk(w1:Vw)(J:L2.It)(own:Own)(xs:LD):Prop:=∀w M,Ext w1 w->RS w M->Jr own xs M->∀i:Nat,
 (∀d,xs[i]?=some d->J.go i w.H/\∀x b,J.yld i w.H x b->∃a,a.H=b/\Ext w a/\RS a M/\RD a d x)/\(xs.length<=i->J.stop i w.H)
def iF(w0:Vw)(f:DEnv->Z2->(Own->LD->Z2->Prop)->Prop):TI:=λh H R=>∃w a M e,StOk w0 w a M h H/\f a M e/\
 ∀J c b d g,Ext w c->RS c g->JOk c J b d->e b d g->R J c.H
section
variable{c:Cfg}{k:Ck}{Z:DX}{w0:Vw}{X:Cx}
def PI.imp{d it:Expr}{t t':TI}(h:PI X d it t)(q:∀a H R,t' a H R->t a H R):PI X d it t':=λb s a H R I z=>h b s a H R I (q a H R z)
def Yo9{w l:Expr}(B:PE X l r):PI X w l (λm H R=>r m H λx g=>(∃a,x= .ref a/\(∃xs,SqL X.K g a xs)/\R (Itl X.K a) g)\/∃a,x= .ref a/\(∃xs,SqT X.K g a xs)/\R (Itt X.K a) g):=by
 intro f s m H R I h;show thn (B f s m H _ I h) λv d zz=>?_;let(x,g,i,t,z):=zz;have u:∀b∈[d⁻¹],FpOk X f g b:=λb C=>by
  have e:b=d⁻¹:=by simpa using C
  subst e;show i.fpOk (na _) (i.hok.fresh (na _))
 rcases z with⟨a,e,⟨xs,n⟩,q⟩|⟨a,e,⟨xs,n⟩,q⟩
 .subst e;cases t;let(j,y,p,A):=i.list n;show wpAny_pyIter_list p.isList ?_;show(d⁻¹,[d⁻¹],_,_,g,rfl,i.kept (t':=d.toks) λb o e=>Ah _ e,Zj6 a _,(_,Dp _ rfl,rfl,rfl),u,q)
 .subst e;cases t;let(j,y,p,A):=i.tuple n;show wpAny_pyIter_tuple (show d.heap.IsTuple a j.toArray from p) ?_;show(d⁻¹,[d⁻¹],_,_,g,rfl,i.kept (t':=d.toks) λb o e=>Ah _ e,Z62 a _,(_,Dp _ rfl,rfl,rfl),u,q)
def Ja{p:TE}(E:PE X l p):PI X y l (λn H R=>p n H λx j=>∃a kvs,x= .ref a/\j a=some (.dK kvs)/\∀o,(∀B u,X.H₀ a≠some (.frz B u))->R (Itd a o) (upd j a (.frz o (.dK kvs)))):=by
 intro d s n H R I h;show thn (E d s n H _ I h) λv g zz=>?_;let(x,j,w,A,a,kvs,e,r,q):=zz;subst e;cases A;let(o,M,N,t,L,m,C):=Zv5 w r;let(K,z,J,i):=Zn1 (m.hok a _ Zc) t;let(_,D,_):=Z99 w.hok r;show wpAny_pyIter_dict D J ?_;have f:upd j a (.frz o (.dK kvs)) g⁻¹=none:=m.hok.fresh (na _);have G:∀b∈[g⁻¹],FpOk X d (upd j a (.frz o (.dK kvs))) b:=λb F=>by
  have e:b=g⁻¹:=by simpa using F
  subst e;show m.fpOk (na _) f
 rw[i];show(g⁻¹,[g⁻¹],_,_,_,rfl,m.kept (t':=g.toks) λb o e=>Ah _ e,Zh3 a _ t,(_,Dp _ rfl,rfl,rfl),G,q o C)
def Y09{w:Vw}:∀{a:KQ9} {vs:List (Key×V)} {i:Nat} {d:D},RKV w a vs->(Xk a)[i]?=some d->∃p,vs[i]?=some p/\RD w d (kV p.1)
 | [],vs,i,d,h,e=>by simp[Xk] at e
 |#v[k,x]::a,vs,i,d,h,e=>by
  ext h RKV;let(v,r,rfl,f,b):=h;cases i with
  | zero=>
   cases e;show(#v[k,v],rfl,?_);cases k with
   | inl i=>show Z9.mpr rfl
   | inr x=>show Zw.mpr rfl
  | succ i=>show Y09 (i:=i) b e
def Jv{n:Nat}{o:Obj}(t:n<w1.n)(h:w1.H (w1.μ n)=some (.frz o (.dK vs))):JOk w1 (Itd (w1.μ n) o) (.dct n) xs:=by intro w M x R a i;let(s,a,rfl):=a;have q:=x.imm _ _ h rfl;let(B,z,l,j):=R.cell n _ a;rw[x.μ n t,q] at l;cases l;show(λd e=>?_,λb=>(vs,q,by rw[j.length];ext b Xk;rw[Ai] at b;show b));let(p,g,r):=Y09 j e;show((vs,p,q,g),λy C (v,u)=>(w,v.symm,Ext.refl w,R,?_));let(A,f,m):=u vs q;rw[g] at f;cases f;rw[m];show r
def Zr8{n:Nat}(o:X.K=w1.K)(l:n<w1.n):JOk w1 (Itl X.K (w1.μ n)) (.lst n) xs:=by intro w M x R j i;let(_,b,a,g,_):=R.listL j;rw[x.μ n l,x.K,<-o] at a;show(λd e=>?_,λm=>(b,a,by rw[g.length];show m));let(v,f,h):=g.get e;show((b,v,a,f),λy r (q,p)=>(w,q.symm,Ext.refl w,R,?_));have:=p b a;rw[f] at this;cases this;show h
def Zy1{n:Nat}(q:X.K=w1.K)(o:n<w1.n):JOk w1 (Ite X.K (w1.μ n)) (.enm n) xs:=by intro w M x R f i;let(C,f,rfl):=f;let(_,b,a,j,_):=R.listL f;rw[x.μ n o,x.K,<-q] at a;show(λd e=>?_,λg=>(b,a,by rw[j.length];ext g F3;rw[List.length_mapIdx] at g;show g));ext e F3;rw[Hv,Ig] at e;let(d,e,rfl):=e;let(v,h,l):=j.get e;show((b,v,a,h),λy E zz=>?_);let(p,u,m,t,s,r):=zz;have:=r b a;rw[h] at this;cases this;subst t s;let(B,A,z):=Vv R m (RDs.cons (Z9.mpr (rfl:V.int (i:Int)=_)) (RDs.cons l (RDs.nil w)));show(_,rfl,B,A,z)
def Zj9{a:Uj}(m:X.K=w1.K)(h:SqT w1.K w1.H a vs)(r:RDs w1 xs vs):JOk w1 (Itt X.K a) .no xs:=by intro w M x R p i;have b:=x.sqT h;rw[x.K,<-m] at b;have g:=r.ext x;show(λd e=>?_,λl=>(vs,b,by rw[g.length];show l));let(v,f,j):=g.get e;show((vs,v,b,f),λy q (o,n)=>(w,o.symm,Ext.refl w,R,?_));have:=n vs b;rw[f] at this;cases this;show j
def Yd9{w1:Vw}{lo:Int}{n:Nat}:JOk w1 (Itr lo n) .no (Wg lo n):=by
 intro w M x R p i;ext Wg;show(λd e=>?_,λa=>?_)
 .rw[Ch,Ig] at e;let(j,l,rfl):=e;let(h,g):=Ab.mp l;have b:j=i:=by simpa using g.symm
  subst b;have f:j<n:=by simpa using h
  show(f,λy q zz=>by let(o,m):=zz;show(w,o.symm,Ext.refl w,R,by rw[m];show Z9.mpr rfl))
 .have:n<=i:=by simpa using a
  show this
def Zf0{b:LS}{a:List (Str×Uj)}{s:Ui}{H:Hp}:(cxC X b scope a C fp pins s H).env.scope=Y3 scope X.env.scope:=rfl
def Good.block(G:Good c k Z w0 X)(j:k.calm=true){i:LS}(p:i.Nodup)(v:List (Str×Uj))(C:Uj)(fp:List Uj)(pins:PLO)(s:Ui)(H:Hp):
  Good c {k with N:=i,sc:=Y3 scope k.sc,cells:=false,own:=Xp scope,tries:=false,raises:=[]} noX w0 (cxC X i scope v C fp pins s H) where
 hK:=G.hK
 wK:=G.wK
 N:=rfl
 nd:=p
 sc:=by rw[Zf0,G.sc]
 calm:=λ_=>G.calm j
 units:=G.units
 fns:=λ_ f x l e d=>by let(n,f,q,m,r,g,t,a,h):=G.fns j f x l e d;show(n,f,q,m,r,g,t,a,h)
 flen:=G.flen
 glb:=G.glb
 blt:=G.blt
 exc:=(E0,λ_ _ _ _ _ _ _ h=>by
  let(_,_,_,_,_,_,_,_,_,_,_,_,_,_,_,h):=h;show h.elim,λu w z h=>by
  let(_,_,_,_,_,_,_,_,_,_,_,_,_,h):=h;show h.elim)
 stk:=λh=>by cases h
 rai:=λ_ h=>absurd h Bf9
 po:=λ_=>PassesOwn.never
 fnc:=λh=>by cases h
 fno:=λx b=>by show(scope.names.any λy=>y.1==x&&y.2==Io)=true;have b:x∈(scope.names.filter λy=>y.2==Io).map (·.1):=b;let(y,o,rfl):=Ar.mp b;let(e,d):=Di.mp o;rw[Lo];show(y,e,by rw[beq_self_eq_true,Bool.true_and];show d)
def Good.tgs(G:Good c k Z w0 X):∀(b:LQ) (es:List Expr),Yg1 k b es=true->PGs X es (gAll b)/\(assignEach es X.env).length=b.length/\(assignEach es X.env).findIdx? (·.1)=none:=by
 have d:∀(i:Nat) (x:Str) (a:Pos),k.N[i]?=some x->k.locC x=true->PG X (.Name x a) (Zo0 i):=λi x a g f=>by let(l,j):=G.locC f;show Zi3 G.nd (by rw[G.N];show g) l j
 intro b;induction b with
 | nil=>
  intro es h;cases es with
  | nil=>show(Y77,rfl,rfl)
  | cons e es=>left
 | cons i b m=>
  intro es h;cases es with
  | nil=>left
  | cons e es=>
   cases e with
   | Name x a=>
    change (_&&_)=true at h;erw[Bz9,beq_iff_eq] at h;let(g,f,n):=m es h.2;show(Zu9 (d i x a h.1.1 h.1.2) g rfl,?_,?_)
    .show(assignEach es X.env).length+1=b.length+1;rw[f]
    .show(#v[false,_]::assignEach es X.env).findIdx? (·.1)=none;rw[List.findIdx?_cons,n];rfl
   | _=>left
def Good.tgt(G:Good c k Z w0 X):∀(d:LQ) (e:Expr),Wn k d e=true->PG X e (gF w0 d):=by
 have f:∀(i:Nat) (x:Str) (a:Pos),k.N[i]?=some x->k.locC x=true->PG X (.Name x a) (Zo0 i):=λi x a j g=>by let(m,l):=G.locC g;show Zi3 G.nd (by rw[G.N];show j) m l
 have b:=G.tgs;intro d e h;cases e with
 | Name x a=>
  match d,h with
  | [i],h=>change (_&&_)=true at h;erw[Bz9,beq_iff_eq] at h;show Yn6 (f _ x a h.1 h.2)
  | [],h=>left
  | _::_::_,h=>left
 | Tuple o p a=>change (_&&_)=true at h;erw[Bz9,decide_eq_true_eq] at h;let(j,g,n):=b d o h.2;show Y85 h.1.2 (Yh1 (G.calm h.1.1) j g n)
 | _=>left
def Cw{w:Vw}{a:DEnv}(h:REnv w a f):REnv w (capD js a) (Rz js f):=by
 show(by unfold capD Rz;simp,λi d e=>?_);ext e capD;ext Rz;rw[Ch] at e |-;cases g:js[i]? with
 | none=>rw[g] at e;cases e
 | some o=>
  rw[g] at e;erw[Ud,Option.some.injEq] at e |-;cases o with
  | none=>cases e
  | some j=>
   erw[Dz] at e |-;cases b:a[j]? with
   | none=>rw[b] at e;cases e
   | some z=>rw[b] at e;have n:z=some d:=e;subst n;let(v,m,l):=h.2 j d b;show(v,by rw[m];rfl,l)
def Jw{own:Own}{t:DEnv}(e0:Ext w0 w1)(hH:w1.H=H1)(R1:RS w1 l)(env:REnv w1 t σ)(jk:JOk w1 J own xs)
  (h:Ry own xs U cd el l.length xs t (l++[.lst []]) QD) (a:Aft w1 (λd M=>d= .ref l.length/\QD M) Q):∀p,H1 p=none->∃W:Nat->Nat->L2.St->Hp->Prop,(∃m,W 0 m σ (upd H1 p (.lst [])))/\
   ∀i m f s,W i m f s->(J.stop i s/\Q (.ref p) s)\/(J.go i s/\∀x H',J.yld i s x H'->gF w0 U x f H' λj H2=>tFT w0 cd j H2 λb H3=>if b=true then tF w0 el j H3 λy H4=>∃r,H4 p=some (.lst r)/\r.length<sizeLine/\
    ∃I,I<m/\W (i+1) I j (upd H4 p (.lst (r++[y]))) else ∃I,I<m/\W (i+1) I j H3):=by
 intro p hp;subst hH;let(T,R2,rz):=Yl (xs:=[]) R1 hp (RDs.nil w1);have hz:l.length< (w1.push p (.lst [])).n/\p=(w1.push p (.lst [])).μ l.length:=by let(E,N):=Ze.mp rz;show(E,by injection N)
 show(λi m f s=>∃w o M,StOk w0 w o M f s/\Ext (w1.push p (.lst [])) w/\i<=xs.length/\m=xs.length - i/\Ry own xs U cd el l.length (xs.drop i) o M QD,(xs.length,w1.push p (.lst []),t,_,(rfl,e0.trans T,R2,env.ext T),Ext.refl _,nk _,rfl,h),?_);rintro i m f s ⟨w,o,M,S,F,hi,rfl,C⟩;have G:Ext w1 w:=T.trans F;have K:w.μ l.length=p:=(F.μ _ hz.1).trans hz.2.symm;have L:l.length<w.n:=nh hz.1 F.n;have A:∀B:Jr own xs M,_:=λB=>jk w M G S.rs B i;rw[S.heap] at A;by_cases q:i<xs.length
 .rw[Hx q] at C;let(B,C):=C;let(j1,j2):=(A B).1 xs[i] (Aa q);show .inr (j1,λx H' hy=>?_);let(w3,rfl,z,R3,Y):=j2 x H' hy;show(w3,o,M,xs[i],_,(rfl,S.ext.trans z,R3,S.env.ext z),Y,C,λj g e q2=>?_);show(w3,g,M,_,(rfl,S.ext.trans z,R3,e),q2,λb w4 M4 u R4 R=>?_);cases b with
  | true=>rw[ng rfl] at R |-;show Zx (rfl,(S.ext.trans z).trans u,R4,e.ext u) R λy P dy M5 x5 R5 V q5=>?_;let(r,g1,g2,g3):=q5;let(hn,vs,E,N):=R5.list g1;have v:Ext w P:=(z.trans u).trans x5;have z0:P.μ l.length=p:=(v.μ _ L).trans K;let(O,y2):=Yr R5 hn E (N.append (RDs.cons V (RDs.nil P)));rw[z0] at E O y2;show(vs,E,by rw[N.length];show g2,xs.length - (i+1),'o',P.alloc p (.lst (vs++[y])),g,_,(rfl,(S.ext.trans v).trans O,y2,(e.ext (u.trans x5)).ext O),(F.trans v).trans O,q,rfl,g3)
  | false=>rw[nc Bf9] at R |-;show(xs.length - (i+1),'o',w4,g,M4,(rfl,(S.ext.trans z).trans u,R4,e.ext u),(F.trans z).trans u,q,rfl,R)
 .rw[List.drop_eq_nil_of_le 'o'] at C;let(B,hq):=C;show .inl ((A B).2 'o',?_);have:=a (.ref p) w (.ref l.length) M G S.rs (Ze.mpr (L,by rw[K])) (rfl,hq);rwa[S.heap] at this
end
def F6(c:Cfg)(e:E):Prop:=∀(k:Ck) (Z:DX) (a:Vw) (X:Cx) (b:Expr),Good c k Z a X->chkE k e b=true->PE X b (tF a (te c Z e))/\(noIf e=true->PT X b (tFT a (ttD (te c Z e))))
def Yc6(c:Cfg)(es:Es):Prop:=∀(k:Ck) (Z:DX) (d:Vw) (X:Cx) (e:List Expr),Good c k Z d X->Vq k es e=true->PA X e (tFA d (tes c Z es))/\
 ∀(b:Bool) (a:Pos),PE X (.BoolOp (if b then .And else .Or) e a) (tF d (tbop c Z b es))/\(Za2 es=true->PW X (.BoolOp (if b then .And else .Or) e a) (tFT d (ttD (tbop c Z b es))))
def Y11(c:Cfg)(b:Eo):Prop:=(∀(k:Ck) (Z:DX) (a:Vw) (X:Cx) (e:Option Expr),Good c k Z a X->chkO k b e=true->PO X e (tFO a (teo c Z b)))/\
 ∀(k:Ck) (Z:DX) (a:Vw) (X:Cx) (d:List Expr),Good c k Z a X->chkC k b d=true->(∃x,d=[x]/\PT X x (tFT a (tcd c Z b)))\/(d=[]/\b= .no)
def Yp6(c:Cfg)(it:It):Prop:=∀(k:Ck) (Z:DX) (a:Vw) (X:Cx) (b d:Expr),Good c k Z a X->Y88 k it d=true->itTg it b=true->PI X b d (iF a (tit c Z it))
section
variable{c:Cfg}{k:Ck}{Z:DX}{w0:Vw}{X:Cx}
def Od{d:D}{v:V}{b:L2.St}{H:Hp}(f:∀w:Vw,w.K=w0.K->RD w d v)(h:tF w0 (λ_ M Q=>Q d M) b H Q):tC v b H Q:=by let(w,e,M,i,S,g,a):=h;have:=a v w d M (Ext.refl w) S.rs (f w S.K) g;rwa[S.heap] at this
def both{d:Expr}{b:Bool}(G:Good c k Z w0 X)(h:PE X d (tF w0 f))(e:∀a,isTrue d X.env a=(do let v <-a;standAt d.pos;holding [v] (truthy v))):
  PE X d (tF w0 f)/\(b=true->PT X d (tFT w0 (ttD f))):=(h,λ_=>Yt6 G h e)
def Z76{x:Str}{d:List Expr}(G:Good c k Z w0 X)(hc:k.calm=true)(O:k.FN[f]?=some x)(hg:k.glob x=true)(i:Vq k es d=true)(ih:PA X d (tFA w0 (tes c Z es))):
  PE X (.Call (.Name x Y) d [] pos) (tF w0 (te c Z (.call f es))):=by
 let(g1,g2,g3):=G.gl hg;let(E,I,V):=G.exc;cases b:c.Γ[f]? with
 | none=>have h1:=(Ab.mp O).1;have T:=List.getElem?_eq_none_iff.mp b;rw[G.flen] at h1;lia
 | some D=>
  let(kk,fa,fd,pr,ds,z,dD,u,F,J,L,N,R,P,hD,o):=G.fns hc f x D O b;have n:∀m H Q,tF w0 (te c Z (.call f es)) m H Q->tFA w0 (tes c Z es) m H λC H1=>spF X.K u (C++z) H1 Q E:=by
   rintro m H Q ⟨w,j,M,B,S,g,a⟩;show(w,j,M,_,S,g,λC t q U s W v y=>?_);have y:D q U B Z:=by have:=y;erw[b] at this;show this
   have p:t.K=X.K:=by rw[s.K,S.K,G.eK]
   show(t,q++dD,U,B,Z,p,rfl,W,v.append (hD t p),o _ _ _ _ y,a.ext s,λA dd H' hx=>V A dd H' (E4 (S.ext.trans s) hx))
  cases d with
  | nil=>
   show PE.imp (Zy6 F J g1 L N R P I g2) λm H Q h=>?_;have T:=n m H Q h;let(w,j,M,B,S,g,a):=T;cases es with
   | nil=>have:=a [] w [] M (Ext.refl w) S.rs (RDs.nil w) g;rwa[S.heap] at this
   | cons e r=>show absurd i Bf9
  | cons l d=>
   cases es with
   | nil=>show absurd i Bf9
   | cons e r=>change (_&&_)=true at i;erw[Bz9] at i;show PE.imp (Yf9 F J g1 L N R P I ih g2 (Zo i.1.2) (Q4 (Xv r d i.2))) n
def Fv{w:Vw}:∀{a:KQ9} {vs:List (Key×V)},RKV w a vs->RDs w (Xk a) (vs.map λq=>kV q.1)
 | [],vs,h=>by ext h RKV;subst h;show RDs.nil w
 |#v[k,d]::a,vs,h=>by
  ext h RKV;let(v,r,rfl,e,b):=h;show RDs.cons ?_ (Fv b);cases k with
  | inl i=>show Z9.mpr rfl
  | inr x=>show Zw.mpr rfl
def Cc{a:E}{x:Str}(G:Good c k Z w0 X)(B:k.calm=true)(y:x=("list":Str))(A:k.glob x=true)(C:x∈k.BN)(d:noStar l=true)(v:PE X l (tF w0 (te c Z a))):
  PE X (.Call (.Name x p1) [l] [] q1) (tF w0 (te c Z (.lkeys a))):=by
 let(g1,g2,g3):=G.gl A;show PE.imp (Wp (Z66 (X:=X) (G.calm B)) g1 (G.blt _ C) (by rw[y];show boot_list) (W4 v S4 (Zo d)) g3 g2 (Zo d) rfl) λI H Q zz=>?_;let(w,e,M,L,S,g,F):=zz;show Zx S g λx q K N o b s q1=>?_;let(n,rfl,u,D,t):=Y4 q1;let(J,rfl):=Ze.mp s;let(_,r,h,f):=b.dict D;show(q.μ n,r,rfl,h,λp z=>?_);let(m,j,i):=Yl b z (Fv f);show F _ _ _ _ (o.trans m) j i t
def Zl6(w:Vw)(n:Nat):RDs w (Wg 0 n) ((Aj n).map fun(k:Nat)=>V.int (0+(k:Int))):=by
 ext Wg;induction n with
 | zero=>show RDs.nil w
 | succ n a=>rw[Kl,As,As];show a.append (RDs.cons (Z9.mpr rfl) (RDs.nil w))
def Z82{a:E}{x y:Str}(G:Good c k Z w0 X)(L:k.calm=true)(J:x=("list":Str))(I:y=("range":Str))(K:k.glob x=true)(e:k.glob y=true)(N:x∈k.BN)(f:y∈k.BN)(d:noStar l=true)(F:PE X l (tF w0 (te c Z a))):
  PE X (.Call (.Name x p1) [.Call (.Name y p2) [l] [] q2] [] q1) (tF w0 (te c Z (.lrng a))):=by
 let(g1,g2,g3):=G.gl K;let(m,i,h):=G.gl e;have b:=Wp (p:=p2) (pos:=q2) (Ez (X:=X)) m (G.blt _ f) (by rw[I];show boot_range) (W4 F S4 (Zo d)) h i (Zo d) rfl;show PE.imp (Wp (C8 (X:=X) (G.calm L)) g1 (G.blt _ N) (by rw[J];show boot_list) (W4 b S4 rfl) g3 g2 rfl rfl) λP H Q zz=>?_;let(w,s,M,T,S,g,O):=zz;show Zx S g λx A R U z D B q1=>?_;let(j,rfl,r,q,q2):=Xu q1;cases Z9.mp B;show(j,rfl,r,q,λp n=>(p,j,rfl,Zc,r,q,λl d=>?_));have C:=D.alloc (o:= .rng 0 j) n;let(v,u,t):=Yl (w:=A.alloc p (.rng 0 j)) C d (Zl6 _ j.toNat);show O _ _ _ _ ((z.trans (Xa n)).trans v) u t q2
def te_var{i:Nat}{a:DEnv}:te c Z (.var i) a M Q=(match a[i]? with | some (some d)=>Q d M | _=>False):=rfl
def te_glb{a:DEnv}:te c Z (.glb g) a M Q=(match c.G[g]? with | some d=>Q d M | none=>False):=rfl
set_option tactic.hygienic true in
def Zh4{i:Nat}{x:Str}(G:Good c k Z w0 X)(o:k.N[i]?=some x)(n:k.vis x=true):PE X (.Name x pos) (tF w0 (te c Z (.var i))):=by
 let(j,h,f):=G.vis n;show PE.imp (Bz (i:=i) (by rw[G.N];show o) j h f) λp H Q zz=>?_;let(w,b,M,q,S,g,a):=zz;rw[te_var] at g;split at g
 .rename_i d e;let(v,m,l):=S.env.2 i d e;have:=a v w d M (Ext.refl w) S.rs l g;rw[S.heap] at this;show(v,m,this)
 .show g.elim
def Zo8{x:Str}(G:Good c k Z w0 X)(p:k.GN[g]?=some x)(o:k.glob x=true):PE X (.Name x pos) (tF w0 (te c Z (.glb g))):=by
 let(g1,g2,g3):=G.gl o;cases e:c.G[g]? with
 | none=>show PE.imp (t:=λ_ _ _=>False) (λ_ _ _ _ _ _ h=>h.elim) λi H Q zz=>?_;let(w,b,M,f,S,q,a):=zz;rw[te_glb] at q;rw[e] at q;show q
 | some d=>let(v,u,m,l,j):=G.glb g x d p e;show PE.imp (Yd2 g1 m l g2) λi H Q h=>Od (d:=d) (λw n=>j w (by rw[n,G.eK])) ?_;let(w,b,M,f,S,q,a):=h;rw[te_glb] at q;rw[e] at q;show(w,b,M,f,S,q,a)
def Zp5{b:Bf}{x:Str}(G:Good c k Z w0 X)(D:k.calm=true\/Sd b=true)(B:x=(bfOf b).1)(C:k.glob x=true)(E:x∈k.BN)(i:Vq k es (l::f)=true)(u:PA X (l::f) (tFA w0 (tes c Z es))):
  PE X (.Call (.Name x A) (l::f) [] pos) (tF w0 (te c Z (.bf b es))):=by
 let(g1,g2,g3):=G.gl C;have v:=G.blt x E;have m:bootBuiltins x=some (bfOf b).2:=by rw[B];show Yd6 b
 have d:=Zr4 (w0:=w0) G.eK b (D.imp G.calm id);have j:starEach (l::f) X.env=#v[false,eval l X.env]::starEach f X.env/\(backTo pos (starEach f X.env)).any (·.1)=false:=by
  cases es with
  | nil=>show absurd i Bf9
  | cons e r=>change (_&&_)=true at i;erw[Bz9] at i;show(Zo i.1.2,Q4 (Xv r f i.2))
 have h:∀o H Q,tF w0 (te c Z (.bf b es)) o H Q->tCB (rC w0 (bfD w0.K b)) (tFA w0 (tes c Z es)) o H Q:=by rintro o H Q ⟨w,n,M,I,S,g,a⟩;show(w,n,M,_,S,g,λL y F J s z p t=>?_);rw[<-G.wK] at t;show(y,J,F,I,rfl,by rw[s.K,S.K],z,p,t,a.ext s)
 cases q:(bfOf b).2 with
 | builtin id=>rw[q] at m d;show PE.imp (G6 d g1 v m u g3 g2 j.1 j.2) h
 | type T=>rw[q] at m d;show PE.imp (Wp d g1 v m u g3 g2 j.1 j.2) h
 | _=>cases b<;>cases q
def Y29:∀(xs ys:LD) (us m:LV) (e:Vw) (d:LD) (b:LV),RS e M->RDs e xs us->RDs e ys m->RDs e d b->Aft e QD Q->QD (.ref M.length) (M++[.lst (d++(xs.zip ys).map λp=>D.tup [p.1,p.2])])->LayQ Q b e.H (us.zip m):=by
 intro xs;have j:∀(e:Vw) (d:LD) (b:LV),RS e M->RDs e d b->Aft e QD Q->QD (.ref M.length) (M++[.lst (d++[])])->LayQ Q b e.H []:=λe d b R i a q l A=>by let(h,o,n):=Yl R A i;rw[Hd] at q;show a _ _ _ _ h o n q
 induction xs with
 | nil=>intro ys us m e d b R g f i a q;ext g RDs;subst g;rw[List.zip_nil_left] at q |-;show j e d b R i a q
 | cons x xs z=>
  intro ys us m e d b R g f i a q;ext g RDs;let(u,s,rfl,w,g):=g;cases ys with
  | nil=>ext f RDs;subst f;rw[List.zip_nil_right] at q |-;show j e d b R i a q
  | cons y ys=>ext f RDs;let(v,r,rfl,t,f):=f;intro T B;let(h,o,n):=Vv R B (RDs.cons w (RDs.cons t (RDs.nil _)));show z ys s r (e.alloc T (.tup [u,v])) (d++[.tup [x,y]]) (b++[.ref T]) o (g.ext h) (f.ext h) ((i.ext h).append (RDs.cons n (RDs.nil _))) (a.ext h) ?_;rw[Db];show q
def Zp6{o:E}{L u:Pos}{b:List Expr}(G:Good c k Z w0 X)(J:Zl5 l=true)(I:(L.endLine==u.line)=true)(U:b.length<30)(t:Vq k es b=true)(F:PE X l (tF w0 (te c Z o)))(T:PA X b (tFA w0 (tes c Z es))):
  PE X (.Call (.Attribute l (mtN m) L) b [] u) (tF w0 (te c Z (.mt m o es))):=by
 have j:=Zr1 (w0:=w0) G.eK G.units m;cases b with
 | nil=>
  show PE.imp (Yk9 (Yh7 m) (Zl8 m) (Ym5 m) j F (Gg J) I) λN H Q zz=>?_;let(w,h,M,C,S,g,a):=zz;show Zx S g λx s B D f p n q=>?_;have i:=Y22 p n q.1;rw[f.K,S.K,<-G.eK] at i;show(i,?_);cases es with
  | nil=>show(s,D,B,[],C,rfl,by rw[f.K,S.K],p,n,RDs.nil s,q.2,a.ext f)
  | cons e r=>show absurd t Bf9
 | cons z b=>
  cases es with
  | nil=>show absurd t Bf9
  | cons e r=>
   have d:=t;change (_&&_)=true at d;erw[Bz9] at d;have A:((backTo u (starEach (z::b) X.env)).all (λx=> !x.1)&&(backToKw u (keywordEach [] X.env)).all (λx=>x.1.isSome)
     &&decide ((z::b).length+([]:List Keyword).length+(if ([]:List Keyword).isEmpty then 0 else 1)<30))=true:=by
    rw[Zu3 (Xv _ _ t)];show(true&&true&&decide ((z::b).length+0+0<30))=true;simpa using U
   show PE.imp (Yu7 (Yh7 m) (Zl8 m) (Ym5 m) j F T (Gg J) A I (Zo d.1.2) (Q4 (Xv r b d.2))) λN H Q zz=>?_;let(w,h,M,C,S,g,a):=zz;show Zx S g λx s B D f p n q=>?_;have i:=Y22 p n q.1;rw[f.K,S.K,<-G.eK] at i;show(i,s,h,D,_,S.next f p,q.2,λY O V W v P y R=>?_);show(O,W,B,V,C,rfl,by rw[v.K,f.K,S.K],P,n.ext v,y,R,a.ext (f.trans v))
def Zp9{a:E}{lo hi:Eo}{l:Expr}{x y:Option Expr}{p2 pos:Pos}(G:Good c k Z w0 X)(u:PE X l (tF w0 (te c Z a)))(z:PO X x (tFO w0 (teo c Z lo)))(v:PO X y (tFO w0 (teo c Z hi))):
  PE X (.Subscript l (.Slice x y none p2) pos) (tF w0 (te c Z (.sl a lo hi))):=by
 show PE.imp (Bv (Zz1 (w0:=w0) G.eK) u z v) λJ H Q zz=>?_;let(w,b,M,C,S,g,B):=zz;show Zx S g λx n A I e i o t=>?_;show(n,b,I,_,S.next e i,t,λl m F d q s=>?_);show(m,b,F,_,(S.next e i).next d q,s,λh j D f p r=>?_);show(j,D,A,C,rfl,by rw[f.K,d.K,e.K,S.K],p,o.ext (d.trans f),r,B.ext ((e.trans d).trans f))
set_option tactic.hygienic true in
def Zv1{z:Expr}(h:isM1 z=true):∃y p q,z= .UnaryOp .USub (.Constant (.int 1) y p) q:=by
 ext h isM1;split at h
 .rename_i j y p q;have:j=1:=by simpa using h
  subst this;show(y,p,q,rfl)
 .cases h
def Zl1{a:E}{l z:Expr}(G:Good c k Z w0 X)(A:PE X l (tF w0 (te c Z a)))(hz:isM1 z=true):PE X (.Subscript l (.Slice none none (some z) p2) pos) (tF w0 (te c Z (.rev a))):=by
 let(y,p,q,rfl):=Zv1 hz;show PE.imp (Yk0 A (Zg2 (Ym2 Y33 Y41))) λD H Q zz=>?_;let(w,h,M,J,S,g,C):=zz;show Zx S g λx n I L e f u b=>?_;split at b
 .let(F,j,i):=b;let(_,rfl):=Ze.mp u;let(_,o,d,m,_):=f.listL j;have B:n.K=X.K:=by rw[e.K,S.K,G.eK]
  rw[B] at d;show(1,rfl,-1,rfl,rfl,_,o,rfl,d,λp v=>?_);let(t,s,r):=Yl f v m.reverse;show C _ _ _ _ (e.trans t) s r i
 .show b.elim
def Zg1{a b:E}(G:Good c k Z w0 X)(U:PE X l (tF w0 (te c Z a)))(T:PE X r (tF w0 (te c Z b))):PE X (.Dict [some l] [r] pos) (tF w0 (te c Z (.dct a b))):=by
 show PE.imp (Ye4 (Zv0 U T Yb2) rfl rfl 's' 's') λσ H Q zz=>?_;let(w,A,M,QD,S,g,aq):=zz;intro p z;rw[<-S.heap] at z;let(j,t,B):=Q8 (xs:=[]) (vs:=[]) S.rs z (by ext RKV;rfl);have s:upd H p (.dK [])=(w.push p (.dK [])).H:=by rw[<-S.heap];rfl
 have f:(w.push p (.dK [])).μ M.length=p:=by show(if M.length=w.n then p else w.μ M.length)=p;rw[ng S.rs.len.symm]
 have q:M.length< (w.push p (.dK [])).n:=by change M.length<w.n+1;rw[S.rs.len];lia
 rw[s];show Zx (S.next j t) g λx w1 dx M1 i L J O=>?_;show Zx ((S.next j t).next i L) O λy d dy M2 h v I N=>?_;let(e,e1,Y,W):=N;let(P,C,o,D):=v.dict Y;rw[(i.trans h).μ _ q,f] at o;have V:C=[]:=by have:=D.length;show Du.mp ↥this
 subst V;cases R6 e1 (J.ext h);show(o,[#v[e,y]],rfl,by simp,?_);have m:d.H (d.μ M.length)=some (.dK []):=by rw[(i.trans h).μ _ q,f];show o
 let(u,F):=Pq (vs:=[#v[e,y]]) (xs:=[#v[e,dy]]) v P m (by
  have:=(show RKV d [] [] by ext RKV;rfl).put (k:=e) I;show this)
 have K:RD (d.alloc (d.μ M.length) (.dK [#v[e,y]])) (.ref M.length) (.ref p):=(B.ext (i.trans h)).ext u;have:=aq _ _ _ _ (((j.trans i).trans h).trans u) F K W;have R:(d.alloc (d.μ M.length) (.dK [#v[e,y]])).H=upd d.H p (.dK (N5 [] [#v[e,y]])):=by change upd d.H (d.μ M.length) (.dK [#v[e,y]])=_;rw[(i.trans h).μ _ q,f];rfl
 rw[<-R];show this
def sl_W:SlR X (λx lo hi H Q=>∃a xs,x= .ref a/\SqT X.K H a xs/\((HT.sIx xs.length 0 lo=0/\HT.sIx xs.length xs.length hi=xs.length)->Q x H)/\∀p,H p=none->Q (.ref p) (upd H p (.tup (cutV xs lo hi)))):=by
 intro b s e H x v g f lo hi i Q I j o m l h;let(a,xs,rfl,n,r,q):=h;by_cases d:HT.sIx xs.length 0 lo=0/\HT.sIx xs.length xs.length hi=xs.length
 .show Y66 b s e H _ v g f lo hi i Q I j o m l (a,xs,rfl,n,d,r d)
 .show Y25 b s e H _ v g f lo hi i Q I j o m l (a,xs,rfl,n,d,q)
def Zb5{a:E}{lo hi:Eo}{l:Expr}{x y:Option Expr}{p2 pos:Pos}(G:Good c k Z w0 X)(R:PE X l (tF w0 (te c Z a)))(h:PO X x (tFO w0 (teo c Z lo)))(T:PO X y (tFO w0 (teo c Z hi))):
  PE X (.Subscript l (.Slice x y none p2) pos) (tF w0 (te c Z (.slW a lo hi))):=by
 show PE.imp (Bv sl_W R h T) λσ H Q zz=>?_;let(w,b,M,QD,S,g,u):=zz;show Zx S g λx D dx Y j K I O=>?_;have v:=S.next j K;show(D,b,Y,_,v,O,λs C W f J N=>?_);have V:=v.next f J;show(C,b,W,_,V,N,λh w3 M3 i r L=>?_);let(o,rfl,m):=F5 L;have d:=(I.ext f).ext i;let(p,F,rfl,U,n):=Yd.mp d;show(p,F,rfl,.of U,λt=>?_,λq P=>?_)
 .have e:cutD o s h=o:=by ext cutD;rw[<-n.length,t.1,t.2,List.drop_zero,Nat.sub_zero,n.length,Dj]
  rw[e] at m;show u _ _ _ _ ((j.trans f).trans i) r d m
 .let(B,A,z):=Vv r P (C9 (lo:=s) (hi:=h) n);show u _ _ _ _ (((j.trans f).trans i).trans B) A z m
def Z57{b:Bool}{a:E}{x y:Str}{p1 p2 q1 q2:Pos}{l:Expr}(G:Good c k Z w0 X)(hc:k.calm=true)(hx:x=("len":Str))(hy:y=("set":Str))(hg:k.glob x=true)(hg':k.glob y=true)(hB:x∈k.BN)(hB':y∈k.BN)(hl:noStar l=true)(ih:PE X l (tF w0 (te c Z a))):
  PE X (.Call (.Name x p1) [.Call (.Name y p2) [l] [] q2] [] q1) (tF w0 (te c Z (.setf b a))):=by
 let(g1,g2,g3):=G.gl hg;let(g1',g2',g3'):=G.gl hg';have hset:=Wp (p:=p2) (pos:=q2) (Zb6 (X:=X) (G.calm hc)) g1' (G.blt _ hB') (by rw[hy];show Zq9) (W4 ih S4 (Zo hl)) g3' g2' (Zo hl) rfl;have key:∀(w1:Vw) (M1:Z2) (n:Nat) (ks:List Key) (R:LV->Hp->VK->Prop) (Q:VK),RS w1 M1->w1.K=X.K->readL M1 n=some (ks.map kD)->ks.length+1<scanBound->n<w1.n->
   (∀p ks',w1.H p=none->ks'.Nodup->ks'.length<=ks.length->(∀k,k∈ks'↔k∈ks)->R [V.ref p] (w1.alloc p (.ext (Th X.prog X.w p ks'))).H Q)->∃(a:Uj) (ks:List Key),[V.ref (w1.μ n)]=[V.ref a]/\SqL X.K w1.H a (ks.map kV)/\ks.length+1<scanBound/\∀p ks',w1.H p=none->ks'.Nodup->ks'.length<=ks.length->(∀k,k∈ks'↔k∈ks)->R [V.ref p] (upd w1.H p (.ext (Th X.prog X.w p ks'))) Q:=by
  intro w1 M1 n ks R Q r1 hK e1 hz hn h;let(_,vs,z1,z2,_):=r1.listL e1;rw[hK] at z1;rw[Z34 z2] at z1;show(_,ks,rfl,z1,hz,h)
 cases b with
 | true=>show PE.imp (G6 (Ge (X:=X)) g1 (G.blt _ hB) (by rw[hx];show PySem.boot_len) (W4 hset S4 rfl) g3 g2 rfl rfl) λσ H Q zz=>?_;let(w,σD,M,QD,S,g,aq):=zz;show Zx S g λx w1 dx M1 x1 r1 rx q1=>?_;let(n,rfl,q1):=Y4 q1;show Dq q1
 | false=>
  show PE.imp (G6 (Ge (X:=X)) g1 (G.blt _ hB) (by rw[hx];show PySem.boot_len) (W4 hset S4 rfl) g3 g2 rfl rfl) λσ H Q zz=>?_;let(w,σD,M,QD,S,g,aq):=zz;show Zx S g λx w1 dx M1 x1 r1 rx q1=>?_;let(n,rfl,q1):=Y4 q1;let(hn,rfl):=Ze.mp rx;let(ks,e1,hz,q):=q1;have hK:w1.K=X.K:=by rw[x1.K,S.K,G.eK]
  show key w1 M1 n ks (Yi5 X.prog X.w) Q r1 hK e1 hz hn λp ks' hp nd hlk hm=>?_;have ra:=r1.alloc (o:= .ext (Th X.prog X.w p ks')) hp;show(p,ks',rfl,Zc,aq _ _ _ _ (x1.trans (Xa hp)) ra (Z9.mpr rfl) (q ks' nd hm))
def Zs6{a b:E}(G:Good c k Z w0 X)(hn:Cv r=true)(ha:PE X l (tF w0 (te c Z a)))(hb:PE X r (tF w0 (te c Z b))):PE X (.Subscript l r pos) (tF w0 (te c Z (.ix a b))):=by
 have pl:Zo9 r:=by intro o i;cases r<;>first | rfl | cases hn
 show PE.imp (Yv9 (Zv9 (w0:=w0) G.eK G.units) ha hb pl) λσ H Q zz=>?_;let(w,σD,M,QD,S,g,aq):=zz;show Zx S g λx w1 dx M1 x1 r1 rx q1=>?_;show Zx (S.next x1 r1) q1 λy w2 dy M2 x2 r2 ry q2=>?_;show(w2,M2,dx,dy,_,rfl,by rw[x2.K,x1.K,S.K],r2,rx.ext x2,ry,q2,λd v hq hr=>aq v w2 d M2 (x1.trans x2) r2 hr hq)
def Tw{w1 a:Vw}{d:Z2}{n:Nat}{o:Obj}(h:n<w1.n)(f:w1.H (w1.μ n)=some (.dK vs))(x:Ext (w1.alloc (w1.μ n) (.frz o (.dK vs))) a)(r:RS a d)(t:d[n]?=some (.fdc kvs)):
  a.H (w1.μ n)=some (.frz o (.dK vs))/\Ext w1 (a.alloc (w1.μ n) (.dK vs))/\Ext0 a (a.alloc (w1.μ n) (.dK vs))/\RS (a.alloc (w1.μ n) (.dK vs)) (d.set n (.dct kvs)):=by
 have q:=x.imm (w1.μ n) _ Zc rfl;have b:a.μ n=w1.μ n:=x.μ n h;let(j,i,e,g):=r.cell n _ t;rw[b,q] at e;cases e;show(q,Zu7 f rfl x,F8 q,?_);have:=r.thaw t (by rw[b];show q) g;rwa[b] at this
def Zg9{t:TE}(h:PE X f t):PE X f (λd H Q=>t d H λv H'=>∃a o kvs,H' a=some (.frz o (.dK kvs))/\(∀o u,X.H₀ a≠some (.frz o u))/\Q v (upd H' a (.dK kvs))):=by intro b s d H Q I q;show thn (h b s d H _ I q) λu j zz=>?_;let(v,H',i,r,a,o,kvs,e,g,q):=zz;show(v,_,Z25 i e g,r,q)
def Ym1{st:Stmt}{t:TS}(h:PS X st t):PS X st (λR j H=>t {nx:=λb l=>∃a o d,l a=some (.frz o (.dK d))/\(∀o u,X.H₀ a≠some (.frz o u))/\R.nx b (upd l a (.dK d)),rt:=R.rt,bk:=R.bk,ct:=R.ct} j H):=by
 intro g s j H R I q;show Hl (h g s j H _ I q) (λf p i=>?_) λ_ _ z=>z;cases f with
 | next=>let(b,l,n,a,o,d,e,m,q):=i;show(b,_,Z25 n e m,q)
 | ret v=>show i
 | brk=>show i
 | cont=>show i
def Pe{d q e:E}{P t iter D:Expr}(G:Good c k Z w0 X)(L:k.calm=true)(ho:Xg k.sc k.N m js scope=true)(u0:Qb iter=true)(B:m.Nodup)
  (hi:PE X iter (tF w0 (te c Z d))) (ht:Wn {k with N:=m,sc:=Y3 scope k.sc,cells:=false,own:=Xp scope,tries:=false,raises:=[]} A t=true) (hq:chkE {k with N:=m,sc:=Y3 scope k.sc,cells:=false,own:=Xp scope,tries:=false,raises:=[]} q D=true) (t0:noIf q=true) (he:chkE {k with N:=m,sc:=Y3 scope k.sc,cells:=false,own:=Xp scope,tries:=false,raises:=[]} e P=true) (x0:F6 c q) (v0:F6 c e):
  PE X (.ListComp P [(t,iter,[D],0)] scope pos) (tF w0 (te c Z (.compQ m js A d q e)))/\
  ∀(i:Nat) (x:Str) (px j:Pos),X.N[i]?=some x->X.env.scope.names.lookup x=some .local->swapsWith (.ListComp P [(t,iter,[D],0)] scope pos) (some (.Name x px)) j.line X.env=pure true->
   PS X (.Assign [.Name x px] (.ListComp P [(t,iter,[D],0)] scope pos) j) (λR l H=>tF w0 (te c Z (.compQ m js A d q e)) l H λv W=>R.nx (l.set i (some v)) W):=by
 have J:Xg X.env.scope X.N m js scope=true:=by rw[G.sc,G.N];show ho
 have hf:∀x,foldedSetIterable iter X.env x=pure x:=by intro x;cases iter<;>first | rfl | cases u0
 have hg:=λT C O f s H=>(Good.block G L (scope:=scope) B T C O f s H).tgt A t ht;have K:=λT C O f s H=>(v0 _ _ _ _ P (Good.block G L (scope:=scope) B T C O f s H) he).1;have I:=λT C O f s H=>(x0 _ _ _ _ D (Good.block G L (scope:=scope) B T C O f s H) hq).2 t0;have F:∀l H Q,tF w0 (te c Z (.compQ m js A d q e)) l H Q->Zh5 js (λl H R=>tF w0 (te c Z d) l H λx W=>∃a b,x= .ref a/\W a=some (.dK b)/\∀o,(∀o' u,X.H₀ a≠some (.frz o' u))->R (Itd a o) (upd W a (.frz o (.dK b)))) (gF w0 A) (tFT w0 (ttD (te c noX q))) (tF w0 (te c noX e)) l H λv U=>∃a o b,U a=some (.frz o (.dK b))/\(∀o u,X.H₀ a≠some (.frz o u))/\Q v (upd U a (.dK b)):=by
  rintro l H Q ⟨w,r0,M,QD,S,g,a⟩;show Zx S g λv r d M1 x1 r1 y0 z=>?_;let(n,rfl,z):=Y4 z;let(B,rfl):=Ze.mp y0;let(b,z1,z2):=z;let(hM,y,V,y2):=r1.dict z1;show(_,y,rfl,V,λo nf=>?_);have Y:Ext r (r.alloc (r.μ n) (.frz o (.dK y))):=Yv V rfl;have r2:RS (r.alloc (r.μ n) (.frz o (.dK y))) (M1.set n (.fdc b)):=r1.write hM rfl rfl V rfl (o,y,Zc,y2.ext Y);have hl:(M1.set n (.fdc b)).length=M1.length:=by simp
  rw[<-hl] at z2;intro p hp;show Jw (Q:=λv U=>∃a o b,U a=some (.frz o (.dK b))/\(∀o u,X.H₀ a≠some (.frz o u))/\Q v (upd U a (.dK b))) ((S.ext.trans x1).trans Y) rfl r2 (Cw (js:=js) ((S.env.ext x1).ext Y)) (Jv (w1:=r.alloc (r.μ n) (.frz o (.dK y))) (n:=n) B Zc) z2
   (λv w2 d2 M2 x3 r3 z0 zy6=>by
    let(e3,s0,t1,t2):=zy6;let(a1,a2,a3,a4):=Tw B V x3 r3 t1;show(_,o,y,a1,nf,a v _ d2 _ (x1.trans a2) a4 (z0.ext0 a3) (by rw[e3];show t2))) p hp
 show(PE.imp (Zg9 (J6 (G.calm L) J (Ja hi) hg (.inr (_,rfl,I)) K hf)) F,λi x px j h1 h2 h3=>PS.imp (Ym1 (Ce (G.calm L) J G.nd h1 h2 (Ja hi) hg (.inr (_,rfl,I)) K h3 hf)) λR l H h=>F l H _ h)
def Pb{k:Ck}{a:LS}{i:LQ}{d q e:E}(h:chkE k (.compQ a js i d q e) l=true):∃f t iter b scope pos,l= .ListComp f [(t,iter,[b],0)] scope pos/\
  (k.calm&&Xg k.sc k.N a js scope&&Qb iter&&chkE k d iter&&decide a.Nodup&&Wn {k with N:=a,sc:=Y3 scope k.sc,cells:=false,own:=Xp scope,tries:=false,raises:=[]} i t&&chkE {k with N:=a,sc:=Y3 scope k.sc,cells:=false,own:=Xp scope,tries:=false,raises:=[]} q b&&noIf q&&chkE {k with N:=a,sc:=Y3 scope k.sc,cells:=false,own:=Xp scope,tries:=false,raises:=[]} e f)=true:=by
 let(f,j,scope,pos,rfl,h):=Q2 h;let(g,rfl,h):=Ye h;let(t,iter,m,n):=g;let(b,rfl,h):=Ye h;let(rfl,h):=Nr h;show(_,_,_,_,_,_,rfl,h)
def B1{d e:E}{el t iter:Expr}(G:Good c k Z w0 X)(hc:k.calm=true)(ho:Xg k.sc k.N q js scope=true)(x0:Qb iter=true)(A:q.Nodup)
  (hi:PE X iter (tF w0 (te c Z d))) (ht:Wn {k with N:=q,sc:=Y3 scope k.sc,cells:=false,own:=Xp scope,tries:=false,raises:=[]} U t=true) (he:chkE {k with N:=q,sc:=Y3 scope k.sc,cells:=false,own:=Xp scope,tries:=false,raises:=[]} e el=true) (z0:F6 c e):
  PE X (.ListComp el [(t,iter,[],0)] scope pos) (tF w0 (te c Z (.compK q js U d e))):=by
 have y0:Xg X.env.scope X.N q js scope=true:=by rw[G.sc,G.N];show ho
 have hf:∀x,foldedSetIterable iter X.env x=pure x:=by intro x;cases iter<;>first | rfl | cases x0
 have hg:=λcl C fp b s H=>(Good.block G hc (scope:=scope) A cl C fp b s H).tgt U t ht;have v0:=λcl C fp b s H=>(z0 _ _ _ _ el (Good.block G hc (scope:=scope) A cl C fp b s H) he).1;have y:∀{L:L2.St} {H:Hp} {P:Bool->Hp->Prop},tFT w0 (λ_ M P=>P true M) L H P->P true H:=by intro L H P h;let(w,J,M,QD,S,g,a):=h;have:=a true w M (Ext.refl w) S.rs g;rwa[S.heap] at this
 show PE.imp (Zg9 (J6 (tc:=λ_ H Q=>Q true H) (G.calm hc) y0 (Ja hi) hg (.inl (rfl,rfl)) v0 hf)) λL H Q zz=>?_;let(w,J,M,QD,S,g,a):=zz;show Zx S g λv j d M1 T r1 Y z=>?_;let(n,rfl,z):=Y4 z;let(A,rfl):=Ze.mp Y;let(f,O,B):=z;let(hM,l,D,y2):=r1.dict O;show(_,l,rfl,D,λo nf=>?_);have R:Ext j (j.alloc (j.μ n) (.frz o (.dK l))):=Yv D rfl;have r2:RS (j.alloc (j.μ n) (.frz o (.dK l))) (M1.set n (.fdc f)):=r1.write hM rfl rfl D rfl (o,l,Zc,y2.ext R);have hl:(M1.set n (.fdc f)).length=M1.length:=by simp
 rw[<-hl] at B;intro p hp;let(W,v1,v2):=Jw (Q:=λv F=>∃a o f,F a=some (.frz o (.dK f))/\(∀o u,X.H₀ a≠some (.frz o u))/\Q v (upd F a (.dK f))) ((S.ext.trans T).trans R) rfl r2 (Cw (js:=js) ((S.env.ext T).ext R)) (Jv (w1:=j.alloc (j.μ n) (.frz o (.dK l))) (n:=n) A Zc) B
  (λv w2 d2 M2 x3 r3 V zy7=>by
   let(e3,u0,t1,t2):=zy7;let(a1,a2,a3,a4):=Tw A D x3 r3 t1;show(_,o,l,a1,nf,a v _ d2 _ (T.trans a2) a4 (V.ext0 a3) (by rw[e3];show t2))) p hp
 show(W,v1,λi m I Hc hW=>(v2 i m I Hc hW).imp id λ(O,B)=>(O,λx F hy=>?_));let(u1,u2,u3,u4,u5,u6,u7,u8,u9):=B x F hy;show(u1,u2,u3,u4,u5,u6,u7,u8,λK r en q'=>?_);have:=y (u9 K r en q');rwa[ng rfl] at this
def Px{o:LS}{I:LQ}{el t iter:Expr}(G:Good c k Z w0 X)(O:k.calm=true)(ho:Xg k.sc k.N o js scope=true)(r0:Qb iter=true)(hn:o.Nodup)
  (hi:PI X t iter (iF w0 (tit c Z it))) (ht:Wn {k with N:=o,sc:=Y3 scope k.sc,cells:=false,own:=Xp scope,tries:=false,raises:=[]} I t=true) (hd:chkC {k with N:=o,sc:=Y3 scope k.sc,cells:=false,own:=Xp scope,tries:=false,raises:=[]} cd j=true) (he:chkE {k with N:=o,sc:=Y3 scope k.sc,cells:=false,own:=Xp scope,tries:=false,raises:=[]} e el=true) (t0:F6 c e) (s0:Y11 c cd):
  PE X (.ListComp el [(t,iter,j,0)] scope pos) (tF w0 (te c Z (.comp o js I it cd e)))/\
  ∀(i:Nat) (x:Str) (px n:Pos),X.N[i]?=some x->X.env.scope.names.lookup x=some .local->swapsWith (.ListComp el [(t,iter,j,0)] scope pos) (some (.Name x px)) n.line X.env=pure true->
   PS X (.Assign [.Name x px] (.ListComp el [(t,iter,j,0)] scope pos) n) (λR l H=>tF w0 (te c Z (.comp o js I it cd e)) l H λv H1=>R.nx (l.set i (some v)) H1):=by
 have D:Xg X.env.scope X.N o js scope=true:=by rw[G.sc,G.N];show ho
 have hf:∀x,foldedSetIterable iter X.env x=pure x:=by intro x;cases iter<;>first | rfl | cases r0
 have hg:=λu C r f s H=>(Good.block G O (scope:=scope) hn u C r f s H).tgt I t ht;have F:=λu C r f s H=>(t0 _ _ _ _ el (Good.block G O (scope:=scope) hn u C r f s H) he).1;have L:∀l H Q,tF w0 (te c Z (.comp o js I it cd e)) l H Q->iF w0 (tit c Z it) l H λJ H1=>∀p,H1 p=none->∃W:Nat->Nat->L2.St->Hp->Prop,(∃m,W 0 m (Rz js l) (upd H1 p (.lst [])))/\
   ∀i m z U,W i m z U->(J.stop i U/\Q (.ref p) U)\/(J.go i U/\∀x H',J.yld i U x H'->gF w0 I x z H' λB H2=>tFT w0 (tcd c noX cd) B H2 λb H3=>if b=true then tF w0 (te c noX e) B H3 λy H4=>∃T,H4 p=some (.lst T)/\T.length<sizeLine/\
    ∃m',m'<m/\W (i+1) m' B (upd H4 p (.lst (T++[y]))) else ∃m',m'<m/\W (i+1) m' B H3):=by
  rintro l H Q ⟨w,A,M,QD,S,g,a⟩;show(w,A,M,_,S,g,λJ w1 Y xs M1 x1 R1 jk q1=>?_);show Jw (S.ext.trans x1) rfl R1 (Cw (S.env.ext x1)) jk q1 λv w2 d M2 x2 r2 u0 zz=>by let(e2,q2):=zz;show a v w2 d M2 (x1.trans x2) r2 u0 (by rw[e2];show q2)
 have z0:∀{l:L2.St} {H:Hp} {P:Bool->Hp->Prop},cd= .no->tFT w0 (tcd c noX cd) l H P->P true H:=by intro l H P e h;subst e;let(w,A,M,QD,S,g,a):=h;have:=a true w M (Ext.refl w) S.rs g;rwa[S.heap] at this
 cases j with
 | nil=>
  have q0:cd= .no:=by
   cases cd with
   | no=>rfl
   | yes e'=>show absurd hd Bf9
  have K:∀l H Q,tF w0 (te c Z (.comp o js I it cd e)) l H Q->Yo3 js (iF w0 (tit c Z it)) (gF w0 I) (tF w0 (te c noX e)) l H Q:=by intro l H Q h;let(w,A,M,QD,S,g,a):=L l H Q h;show(w,A,M,QD,S,g,λJ w' Y xs M' x' r' jk q p hp=>?_);let(W,w1,w2):=a J w' Y xs M' x' r' jk q p hp;show(W,w1,λi m z U hW=>(w2 i m z U hW).imp id λ(z1,z2)=>(z1,λx H' hy=>?_));let(v1,v2,v3,v4,v5,v6,v7,v8,v9):=z2 x H' hy;show(v1,v2,v3,v4,v5,v6,v7,v8,λv0 V en q'=>?_);have:=z0 q0 (v9 v0 V en q');rwa[ng rfl] at this
  show(PE.imp (J6 (tc:=λ_ H Q=>Q true H) (G.calm O) D hi hg (.inl (rfl,rfl)) F hf) K,λi x px n h1 h2 h3=>PS.imp (Ce (tc:=λ_ H Q=>Q true H) (G.calm O) D G.nd h1 h2 hi hg (.inl (rfl,rfl)) F h3 hf) λR l H h=>K l H _ h)
 | cons x0 j=>
  have hq:∀u C r f s H,∃x,x0::j=[x]/\PT (cxC X o scope u C r f s H) x (tFT w0 (tcd c noX cd)):=λu C r f s H=>by
   rcases s0.2 _ _ _ _ (x0::j) (Good.block G O (scope:=scope) hn u C r f s H) hd with h|⟨h,_⟩
   .show h
   .cases h
  have e0:j=[]:=by
   cases cd with
   | no=>show absurd hd Bf9
   | yes e'=>
    cases j with
    | nil=>rfl
    | cons _ _=>show absurd hd Bf9
  subst e0;have y0:∀u C r f s H,PT (cxC X o scope u C r f s H) x0 (tFT w0 (tcd c noX cd)):=λu C r f s H=>by let(x,h1,h2):=hq u C r f s H;cases h1;show h2
  show(PE.imp (J6 (G.calm O) D hi hg (.inr (_,rfl,y0)) F hf) L,λi x px n h1 h2 h3=>PS.imp (Ce (G.calm O) D G.nd h1 h2 hi hg (.inr (_,rfl,y0)) F h3 hf) λR l H h=>L l H _ h)
def te_cmp_bl{a b:E}(f:DEnv)(M:Z2)(QD:DK)(h:te c Z (.cmp op a b) f M QD):te c Z (.cmp op a b) f M λd j=>(∃b,d= .bl b)/\QD d j:=by
 have e:(fun(d:D) (j:Z2)=>QD d j)=QD:=rfl;change te c Z a f M λx i=>te c Z b f i λy g=>cmD g op x y λr=>(∃b,D.bl r= .bl b)/\QD (.bl r) g;have h:te c Z a f M (λx i=>te c Z b f i λy g=>cmD g op x y λr=>QD (.bl r) g):=h;have:(fun(x:D) (i:Z2)=>te c Z b f i λy g=>cmD g op x y λr=>QD (.bl r) g)=λx i=>te c Z b f i λy g=>cmD g op x y λr=>(∃b,D.bl r= .bl b)/\QD (.bl r) g:=by funext x i;congr 1;funext y g;congr 1;funext r;show propext (λh=>((r,rfl),h),λh=>h.2)
 rw[this] at h;show h
def Y58{a b:Expr}{rest:List Expr}{pos:Pos}{l j:TE}(t:PE X a l)(r:PE X (.BoolOp .And (b::rest) pos) j):PE X (.BoolOp .And (a::b::rest) pos) (λe H Q=>l e H λx g=>∃z,TruV X.K x g z/\if z=true then j e g Q else Q x g):=by
 intro d s e H Q I h;show BoolOp_and (thn (t d s e H _ I h) λv p zz=>?_);let(x,g,u,m,q):=zz;show thn (Z43 d p e g x v (λz f=>if z=true then j e f Q else Q x f) u m q) λz o zz=>?_;let(f,n,i):=zz;cases z with
 | true=>show r d o e f Q n (by rw[ng rfl] at i;show i)
 | false=>show(x,f,n,m,by rw[nc Bf9] at i;show i)
def Yp1{a b:Expr}{rest:List Expr}{pos:Pos}{l j:TE}(t:PE X a l)(r:PE X (.BoolOp .Or (b::rest) pos) j):PE X (.BoolOp .Or (a::b::rest) pos) (λe H Q=>l e H λx g=>∃z,TruV X.K x g z/\if z=true then Q x g else j e g Q):=by
 intro d s e H Q I h;show BoolOp_or (thn (t d s e H _ I h) λv p zz=>?_);let(x,g,u,m,q):=zz;show thn (Z43 d p e g x v (λz f=>if z=true then Q x f else j e f Q) u m q) λz o zz=>?_;let(f,n,i):=zz;cases z with
 | false=>show r d o e f Q n (by rw[nc Bf9] at i;show i)
 | true=>show(x,f,n,m,by rw[ng rfl] at i;show i)
def E6{n:Nat}(b:readL M n=some xs)(a:Y7 M n=some ys):False:=by
 ext b readL;ext a Y7;cases h:M[n]? with
 | none=>rw[h] at a;cases a
 | some c=>rw[h] at b a;cases c<;>simp at b a
def Z45{x:D}{k:Bool}:truD M x (λb=>if b=k then A else truD M x P)=truD M x (λb=>if b=k then A else P b):=by
 cases x with
 | str y=>apply propext;show(y.length<=sizeLine/\if ((y.length:Int) !=0)=k then A else(y.length<=sizeLine/\P ((y.length:Int) !=0)))↔(y.length<=sizeLine/\if ((y.length:Int) !=0)=k then A else P ((y.length:Int) !=0));split<;>simp (config:={contextual:=true})
 | ref n=>
  apply propext;have a:∀Q:Bool->Prop,truD M (.ref n) Q↔(∃d,readL M n=some d/\Q (!d.isEmpty))\/(∃d,Y7 M n=some d/\Q (!d.isEmpty)):=λQ=>Uc;constructor
  .intro h;rcases(a _).mp h with⟨d,g,f⟩|⟨d,g,f⟩
   .refine(a _).mpr (.inl (d,g,?_));split at f
    .rename_i e;rw[ng e];show f
    .rename_i e;rw[nc e];rcases(a _).mp f with⟨j,g1,g2⟩|⟨j,g1,g2⟩
     .rw[g] at g1;cases g1;show g2
     .exact(E6 g g1).elim
   .refine(a _).mpr (.inr (d,g,?_));split at f
    .rename_i e;rw[ng e];show f
    .rename_i e;rw[nc e];rcases(a _).mp f with⟨j,g1,g2⟩|⟨j,g1,g2⟩
     .exact(E6 g1 g).elim
     .rw[g] at g1;cases g1;show g2
  .intro h;rcases(a _).mp h with⟨d,g,f⟩|⟨d,g,f⟩
   .refine(a _).mpr (.inl (d,g,?_));split at f
    .rename_i e;rw[ng e];show f
    .rename_i e;rw[nc e];show(a _).mpr (.inl (d,g,f))
   .refine(a _).mpr (.inr (d,g,?_));split at f
    .rename_i e;rw[ng e];show f
    .rename_i e;rw[nc e];show(a _).mpr (.inr (d,g,f))
 | non=>rfl
 | bl b=>rfl
 | int i=>rfl
 | tup d=>rfl
 | _=>rfl
def te_bop_tt{d:DEnv}(h:ttD (tbop c Z true (.cons e (.cons f r))) d M QD):
  ttD (te c Z e) d M λz a=>if z=true then ttD (tbop c Z true (.cons f r)) d a QD else QD false a:=by
 have i:(fun(x:D) (a:Z2)=>truD a x λb=>if b=true then ttD (tbop c Z true (.cons f r)) d a QD else truD a x λb=>QD b a)=
   λx a=>truD a x λz=>if z=true then ttD (tbop c Z true (.cons f r)) d a QD else QD false a:=by
  funext x a;rw[Z45];congr 1;funext b;cases b<;>rfl
 have g:te c Z e d M fun(x:D) (a:Z2)=>truD a x λb=>if b=true then ttD (tbop c Z true (.cons f r)) d a QD else truD a x λb=>QD b a:=h;rw[i] at g;show g
def te_bop_ff{d:DEnv}(h:ttD (tbop c Z false (.cons e (.cons f r))) d M QD):
  ttD (te c Z e) d M λz a=>if z=true then QD true a else ttD (tbop c Z false (.cons f r)) d a QD:=by
 have i:(fun(x:D) (a:Z2)=>truD a x λb=>if b=false then ttD (tbop c Z false (.cons f r)) d a QD else truD a x λb=>QD b a)=
   λx a=>truD a x λz=>if z=true then QD true a else ttD (tbop c Z false (.cons f r)) d a QD:=by
  funext x a;rw[Z45];congr 1;funext b;cases b<;>rfl
 have g:te c Z e d M fun(x:D) (a:Z2)=>truD a x λb=>if b=false then ttD (tbop c Z false (.cons f r)) d a QD else truD a x λb=>QD b a:=h;rw[i] at g;show g
end
def Z86{k:Ck}{a:E}{c:Expr}(h:chkE k (.lrng a) c=true):∃x y l p1 p2 q1 q2,c= .Call (.Name x p1) [.Call (.Name y p2) [l] [] q2] [] q1/\
  (k.calm&&x==("list":Str)&&y==("range":Str)&&k.glob x&&k.glob y&&k.BN.contains x&&k.BN.contains y&&noStar l&&chkE k a l)=true:=by
 let(s,r,e,q1,rfl,p):=Y0 h;let(x,p1,rfl,o):=Zt p;let(rfl,n):=Yi o;let(t,rfl,m):=Ye n;let(q,d,b,q2,rfl,j):=Y0 m;let(y,p2,rfl,i):=Zt j;let(rfl,g):=Yi i;let(l,rfl,f):=Ye g;show(x,y,l,p1,p2,q1,q2,rfl,f)
def Z83{k:Ck}{b:Bool}{a:E}{d:Expr}(h:chkE k (.setf b a) d=true):∃x y l p1 p2 q1 q2,d= .Call (.Name x p1) [.Call (.Name y p2) [l] [] q2] [] q1/\
  (k.calm&&x==("len":Str)&&y==("set":Str)&&k.glob x&&k.glob y&&k.BN.contains x&&k.BN.contains y&&noStar l&&chkE k a l)=true:=by
 let(t,s,f,q1,rfl,q):=Y0 h;let(x,p1,rfl,p):=Zt q;let(rfl,o):=Yi p;let(u,rfl,n):=Ye o;let(r,e,c,q2,rfl,m):=Y0 n;let(y,p2,rfl,j):=Zt m;let(rfl,i):=Yi j;let(l,rfl,g):=Ye i;show(x,y,l,p1,p2,q1,q2,rfl,g)
mutual
theorem Zg(c:Cfg):∀e:E,F6 c e
 | .var i,k,Z,n,X,u,G,h=>by let(x,s,rfl,h):=Zt h;change (_&&_)=true at h;erw[Bz9,beq_iff_eq] at h;show both G (Zh4 G h.1 h.2) λ_=>rfl
 | .int i,k,Z,n,X,u,G,h=>by
  let(v,j,s,rfl,h):=Wa h;cases v with
  | int m=>have h:(i==m)=true:=h;erw[beq_iff_eq] at h;subst h;show both G (PE.imp Y41 λJ H Q q=>Od (λ_ _=>Z9.mpr rfl) q) λ_=>rfl
  | _=>left
 | .bl i,k,Z,n,X,u,G,h=>by
  let(v,j,s,rfl,h):=Wa h;cases v with
  | bool m=>have h:(i==m)=true:=h;erw[beq_iff_eq] at h;subst h;show both G (PE.imp Yu4 λJ H Q q=>Od (λ_ _=>Xn.mpr rfl) q) λ_=>rfl
  | _=>left
 | .non,k,Z,n,X,u,G,h=>by
  let(v,j,s,rfl,h):=Wa h;cases v with
  | none=>show both G (PE.imp Yk3 λJ H Q q=>Od (λ_ _=>Zq.mpr rfl) q) λ_=>rfl
  | _=>left
 | .str i,k,Z,n,X,u,G,h=>by
  let(v,j,s,rfl,h):=Wa h;cases v with
  | str m=>have h:(i==m)=true:=h;erw[beq_iff_eq] at h;subst h;show both G (PE.imp Yo6 λJ H Q q=>Od (λ_ _=>Zw.mpr rfl) q) λ_=>rfl
  | _=>left
 | .ty t,k,Z,n,X,u,G,h=>by let(x,s,rfl,h):=Zt h;change (_&&_)=true at h;erw[Bz9,beq_iff_eq,Iw] at h;let(g1,g2,g3):=G.gl h.1.2;show both G (PE.imp (Yd0 (v:= .ty (Yw t)) g1 (G.blt x h.2) (by rw[h.1.1];show Yc5 t) rfl g3 g2) λJ H Q q=>Od (λ_ _=>Ya2.mpr rfl) q) λ_=>rfl
 | .glb g,k,Z,n,X,u,G,h=>by let(x,s,rfl,h):=Zt h;change (_&&_)=true at h;erw[Bz9,beq_iff_eq] at h;show both G (Zo8 G h.1 h.2) λ_=>rfl
 | .bin op a b,k,Z,n,X,u,G,h=>by let(l,o,r,s,rfl,h):=Zi7 h;change (_&&_)=true at h;erw[Bz9,beq_iff_eq] at h;let((rfl,B),A):=h;show both G (PE.imp (Yt2 (Zy5 (w0:=n) op) (Zg c a k Z n X l G B).1 (Zg c b k Z n X r G A).1) λJ H Q q=>Zj8 q) λ_=>rfl
 | .neg a,k,Z,n,X,u,G,h=>by
  let(o,l,s,rfl,h):=Z38 h;change (_&&_)=true at h;erw[Bz9,beq_iff_eq] at h;let(rfl,B):=h;show both G (PE.imp (Ym2 Y33 (Zg c a k Z n X l G B).1) λJ H Q zz=>?_) λ_=>rfl;let(w,C,M,QD,S,g,V):=zz;show Zx S g λx w1 dx M1 Y r1 rx L=>?_;split at L
  .cases Z9.mp rx;show(_,rfl,V _ w1 _ M1 Y r1 (Z9.mpr rfl) L)
  .show L.elim
 | .not a,k,Z,n,X,u,G,h=>by
  let(o,l,s,rfl,h):=Z38 h;change (_&&_)=true at h;erw[Bz9,beq_iff_eq] at h;let(rfl,B):=h;let(i1,i2):=Zg c a k Z n X l G B;show(PE.imp (Yf2 i1) λJ H Q (w,C,M,QD,S,g,V)=>?_,λhn=>PT.imp (Yj2 (i2 hn)) λJ H Q (w,C,M,QD,S,g,V)=>?_)
  .refine Zx S g λx w1 dx M1 Y r1 rx L=>?_;let(b,t1,t2):=S7 (K:=X.K) (by rw[Y.K,S.K,G.eK]) r1 rx L;show(b,t1,V _ w1 _ M1 Y r1 (Xn.mpr rfl) t2)
  .exact(w,C,M,λb M1=>QD (!b) M1,S,g,λb w' M' x' r' q'=>V _ w' M' x' r' q')
 | .cmp op a b,k,Z,n,X,u,G,h=>by
  let(l,os,rs,s,rfl,h):=Zc3 h;let(o,rfl,h):=Ye h;let(r,rfl,h):=Ye h;change (_&&_)=true at h;erw[Bz9,beq_iff_eq] at h;let(((rfl,h0),B),A):=h;have hm:behindInMarks (cmOf op) r=false:=by
   cases r with
   | Set P kk p=>cases op<;>first | show absurd h0 'd' | show absurd h0 Bf9 | (simp[isIn,Qb] at h0;done) | (simp[behindInMarks,cmOf])
   | _=>rfl
  have ia:=(Zg c a k Z n X l G B).1;have ib:=(Zg c b k Z n X r G A).1;show(PE.imp (Ye7 (Bj (w0:=n) G.eK G.units op) ia ib hm) λJ H Q q=>Fm q,λ_=>Y64 (PT.imp (Y84 (Bj (w0:=n) G.eK G.units op) ia ib hm) λJ H Q q=>Fm q) te_cmp_bl)
 | .bop b P,k,Z,n,X,u,G,h=>by
  let(o,F,s,rfl,h):=Z73 h;change (_&&_)=true at h;erw[Bz9,beq_iff_eq] at h;let(rfl,h):=h;cases b with
  | true=>let(i1,i2):=(Xl c P k Z n X F G h).2 true s;show(i1,λhn=>(i2 hn).pt)
  | false=>let(i1,i2):=(Xl c P k Z n X F G h).2 false s;show(i1,λhn=>(i2 hn).pt)
 | .lst P,k,Z,n,X,u,G,h=>by let(F,s,rfl,h):=Zf4 h;show both G (PE.imp (Yh3 (Xl c P k Z n X F G h).1) λJ H Q zz=>?_) λ_=>rfl;let(w,C,M,QD,S,g,V):=zz;show(w,C,M,_,S,g,λvs w1 ds M1 Y r1 T L=>(by rw[T.length];show L.1,λp hp=>?_));let(y1,y2,y3):=Yl r1 hp T;show V _ _ _ _ (Y.trans y1) y2 y3 L.2
 | .tup P,k,Z,n,X,u,G,h=>by let(F,kk,s,rfl,h):=F4 h;show both G (PE.imp (Yj1 (Xl c P k Z n X F G h).1) λJ H Q zz=>?_) λ_=>rfl;let(w,C,M,QD,S,g,V):=zz;show(w,C,M,_,S,g,λvs w1 ds M1 Y r1 T L=>(by rw[T.length];show L.1,λp hp=>?_));let(y1,y2,y3):=Vv r1 hp T;show V _ _ _ _ (Y.trans y1) y2 y3 L.2
 | .dict0,k,Z,n,X,u,G,h=>by let(ks,vs,s,rfl,h):=Gp h;let(rfl,h):=Yi h;let(rfl,_):=Yi h;show both G (PE.imp Zr0 λJ H Q zz=>?_) λ_=>rfl;let(w,C,M,QD,S,g,V):=zz;intro p hp;rw[<-S.heap] at hp;let(y1,y2,y3):=Q8 (xs:=[]) (vs:=[]) S.rs hp (by ext RKV;rfl);have:=V _ _ _ _ y1 y2 y3 g;rw[<-S.heap];show this
 | .lkeys a,k,Z,n,X,u,G,h=>by let(fn,F,z0,s,rfl,h):=Y0 h;let(x,np,rfl,h):=Zt h;let(rfl,h):=Yi h;let(l,rfl,h):=Ye h;change (_&&_)=true at h;erw[Bz9,beq_iff_eq,Iw] at h;let(((((B,A),O),N),I),U):=h;show both G (Cc G B A O N I (Zg c a k Z n X l G U).1) λ_=>rfl
 | .lrng a,k,Z,n,X,u,G,h=>by let(x,y,l,p1,p2,L,q2,rfl,hs):=Z86 h;erw[Bz9,beq_iff_eq,Iw] at hs;let((((((((B,A),O),N),I),U),W),h8),h9):=hs;show both G (Z82 G B A O N I U W h8 (Zg c a k Z n X l G h9).1) λ_=>rfl
 | .dct a b,k,Z,n,X,u,G,h=>by let(ks,vs,s,rfl,h):=Gp h;let(q,rfl,h):=Ye h;let(l,rfl,h):=En h;let(r,rfl,A):=Ye h;change (_&&_)=true at A;rw[Bz9] at A;show both G (Zg1 G (Zg c a k Z n X l G A.1).1 (Zg c b k Z n X r G A.2).1) λ_=>rfl
 | .ix a b,k,Z,n,X,u,G,h=>by let(l,r,s,rfl,h):=S3 h;change (_&&_)=true at h;erw[Bz9] at h;show both G (Zs6 G h.1.1 (Zg c a k Z n X l G h.1.2).1 (Zg c b k Z n X r G h.2).1) λ_=>rfl
 | .sl a lo hi,k,Z,n,X,u,G,h=>by let(l,r,s,rfl,h):=S3 h;let(x,y,z,p2,rfl,h):=Qj h;let(rfl,h):=Qf h;change (_&&_)=true at h;erw[Bz9] at h;show both G (Zp9 G (Zg c a k Z n X l G h.1.1).1 ((Pw c lo).1 k Z n X x G h.1.2) ((Pw c hi).1 k Z n X y G h.2)) λ_=>rfl
 | .slW a lo hi,k,Z,n,X,u,G,h=>by let(l,r,s,rfl,h):=S3 h;let(x,y,z,p2,rfl,h):=Qj h;let(rfl,h):=Qf h;change (_&&_)=true at h;erw[Bz9] at h;show both G (Zb5 G (Zg c a k Z n X l G h.1.1).1 ((Pw c lo).1 k Z n X x G h.1.2) ((Pw c hi).1 k Z n X y G h.2)) λ_=>rfl
 | .setf b a,k,Z,n,X,u,G,h=>by let(x,y,l,p1,p2,L,q2,rfl,hs):=Z83 h;erw[Bz9,beq_iff_eq,Iw] at hs;let((((((((B,A),O),N),I),U),W),h8),h9):=hs;show both G (Z57 G B A O N I U W h8 (Zg c a k Z n X l G h9).1) λ_=>rfl
 | .rev a,k,Z,n,X,u,G,h=>by let(l,r,s,rfl,h):=S3 h;let(x,y,z,p2,rfl,h):=Qj h;let(rfl,h):=Qf h;let(rfl,h):=Qf h;let(z,rfl,A):=En h;change (_&&_)=true at A;rw[Bz9] at A;show both G (Zl1 G (Zg c a k Z n X l G A.1).1 A.2) λ_=>rfl
 | .call f P,k,Z,n,X,u,G,h=>by let(fn,F,z0,s,rfl,h):=Y0 h;let(x,np,rfl,h):=Zt h;let(rfl,h):=Yi h;change (_&&_)=true at h;erw[Bz9,beq_iff_eq] at h;show both G (Z76 G h.1.1.1 h.1.1.2 h.1.2 h.2 (Xl c P k Z n X F G h.2).1) λ_=>rfl
 | .bf b P,k,Z,n,X,u,G,h=>by let(fn,F,z0,s,rfl,h):=Y0 h;let(x,np,rfl,h):=Zt h;let(rfl,h):=Yi h;let(l,F,rfl,h):=Y62 h;change (_&&_)=true at h;erw[Bz9,beq_iff_eq,Bool.or_eq_true,Iw] at h;show both G (Zp5 G h.1.1.1.1 h.1.1.1.2 h.1.1.2 h.1.2 h.2 (Xl c P k Z n X (l::F) G h.2).1) λ_=>rfl
 | .mt m o P,k,Z,n,X,u,G,h=>by let(fn,F,z0,s,rfl,h):=Y0 h;let(l,nm,ap,rfl,h):=Z61 h;let(rfl,h):=Yi h;change (_&&_)=true at h;erw[Bz9,beq_iff_eq,decide_eq_true_eq] at h;let(((((rfl,B),A),O),N),I):=h;show both G (Zp6 G B (by rw[A];simp) O I (Zg c o k Z n X l G N).1 (Xl c P k Z n X F G I).1) λ_=>rfl
 | .compQ N' js tg d q e,k,Z,n,X,u,G,h=>by let(el,t,D,qx,R,s,rfl,hs):=Pb h;erw[Bz9,decide_eq_true_eq] at hs;let((((((((B,A),O),N),I),U),W),h8),h9):=hs;show both G (Pe G B A O I (Zg c d k Z n X D G N).1 U W h8 h9 (Zg c q) (Zg c e)).1 λ_=>rfl
 | .compK N' js tg d e,k,Z,n,X,u,G,h=>by let(el,y0,R,s,rfl,h):=Q2 h;let(g,rfl,h):=Ye h;let(t,D,x0,as):=g;let(rfl,h):=Yi h;let(rfl,h):=Nr h;change (_&&_)=true at h;erw[Bz9,decide_eq_true_eq] at h;let((((((B,A),O),N),I),U),W):=h;show both G (B1 G B A O I (Zg c d k Z n X D G N).1 U W (Zg c e)) λ_=>rfl
 | .comp N' js tg it cd e,k,Z,n,X,u,G,h=>by let(el,y0,R,s,rfl,h):=Q2 h;let(g,rfl,h):=Ye h;let(t,D,x0,as):=g;let(rfl,h):=Nr h;change (_&&_)=true at h;erw[Bz9,decide_eq_true_eq] at h;let((((((((B,A),O),N),I),U),W),h8),h9):=h;show both G (Px G B A O I (Zi2 c it k Z n X t D G N h9) U W h8 (Zg c e) (Pw c cd)).1 λ_=>rfl
theorem Xl(c:Cfg):∀es:Es,Yc6 c es
 | .nil,k,Z,V,X,E,G,h=>by
  cases E with
  | nil=>show(PA.imp S4 λx H Q zz=>?_,λb N=>(PE.imp (t:=λ_ _ _=>False) (λ_ _ _ _ _ _ h=>h.elim) λx H Q zz=>by let(w,f,M,A,S,g,m):=zz;show g,λ_ a i s x H Q I zz=>by let(w,f,M,A,S,g,m):=zz;show g.elim));let(w,f,M,A,S,g,m):=zz;have:=m [] w [] M (Ext.refl w) S.rs (RDs.nil w) g;rwa[S.heap] at this
  | cons l E=>left
 | .cons e r,k,Z,V,X,E,G,h=>by
  cases E with
  | nil=>left
  | cons l E=>
   change (_&&_)=true at h;erw[Bz9] at h;let(T,R):=Zg c e k Z V X l G h.1.1;let(ir,ib):=Xl c r k Z V X E G h.2;show(PA.imp (W4 T ir (Zo h.1.2)) λx H Q (w,f,M,A,S,g,m)=>?_,λb N=>?_)
   .refine Zx S g λv B d n j p o u=>?_;show(B,f,n,_,S.next j p,u,λvs J ds P F C Y L=>?_);show m _ J _ P (j.trans F) C (RDs.cons (o.ext F) Y) L
   .cases r with
    | nil=>
     cases E with
     | cons _ _=>show absurd h.2 Bf9
     | nil=>
      show(PE.imp (Yj7 T) λx H Q q=>q,λhn=>?_);have y:noIf e=true:=(Bool.and_eq_true_iff.mp (show(noIf e&&Za2 .nil)=true from hn)).1;cases b with
      | true=>show λa i s x H Q I q=>Y86 (R y) a i s x H Q I q
      | false=>show λa i s x H Q I q=>Yl9 (R y) a i s x H Q I q
    | cons U C=>
     cases E with
     | nil=>show absurd h.2 Bf9
     | cons l2 E=>
      let(jb,jw):=ib b N;constructor
      .cases b with
       | true=>
        show PE.imp (Y58 T jb) λx H Q zz=>?_;let(w,f,M,A,S,g,m):=zz;show Zx S g λv B d n j p o u=>?_;let(z,W,D):=S7 (K:=X.K) (by rw[j.K,S.K,G.eK]) p o u;show(z,W,?_);cases z with
        | true=>rw[ng rfl] at D |-;show Zx (S.next j p) D (m.ext j)
        | false=>rw[nc Bf9] at D |-;show m _ B _ n j p o D
       | false=>
        show PE.imp (Yp1 T jb) λx H Q zz=>?_;let(w,f,M,A,S,g,m):=zz;show Zx S g λv B d n j p o u=>?_;let(z,W,D):=S7 (K:=X.K) (by rw[j.K,S.K,G.eK]) p o u;show(z,W,?_);cases z with
        | false=>rw[ng rfl] at D;rw[nc Bf9];show Zx (S.next j p) D (m.ext j)
        | true=>rw[nc 'd'] at D;rw[ng rfl];show m _ B _ n j p o D
      .intro hn;have y:noIf e=true/\Za2 (.cons U C)=true:=by have:(noIf e&&Za2 (.cons U C))=true:=hn;simpa using this
       have O:=jw y.2;cases b with
       | true=>
        rintro a i s x H Q I ⟨w,f,M,A,S,g,m⟩;show Yi2 (R y.1) O a i s x H Q I ?_;show(w,f,M,λz n=>if z=true then ttD (tbop c Z true (.cons U C)) f n A else A false n,S,?_,λz B n j p u=>?_)
        .show te_bop_tt g
        .cases z with
         | true=>rw[ng rfl] at u |-;show(B,f,n,A,S.next j p,u,λz J P F C L=>m z J P (j.trans F) C L)
         | false=>rw[nc Bf9] at u |-;show m _ B n j p u
       | false=>
        rintro a i s x H Q I ⟨w,f,M,A,S,g,m⟩;show Yt1 (R y.1) O a i s x H Q I ?_;show(w,f,M,λz n=>if z=true then A true n else ttD (tbop c Z false (.cons U C)) f n A,S,?_,λz B n j p u=>?_)
        .show te_bop_ff g
        .cases z with
         | true=>rw[ng rfl] at u |-;show m _ B n j p u
         | false=>rw[nc Bf9] at u |-;show(B,f,n,A,S.next j p,u,λz J P F C L=>m z J P (j.trans F) C L)
theorem Pw(c:Cfg):∀t:Eo,Y11 c t
 | .no=>(λk Z b X n G h=>by
   cases n with
   | none=>rintro a s i H Q I ⟨w,f,M,u,S,g,o⟩;show Y95 a s i H Q I ?_;have:=o none w M (Ext.refl w) S.rs g;rwa[S.heap] at this
   | some _=>left,λk Z b X m G h=>by
   cases m with
   | nil=>show .inr (rfl,rfl)
   | cons _ _=>left)
 | .yes e=>(λk Z b X n G h=>by
   cases n with
   | none=>left
   | some x=>
    rintro a s i H Q I ⟨w,f,M,u,S,g,o⟩;show Zg2 (Zg c e k Z b X x G h).1 a s i H Q I ?_;show Zx S g λv q d y p r j l=>?_;split at l
    .cases Z9.mp j;show(_,rfl,o _ q y p r l)
    .show l.elim,λk Z b X m G h=>by
   match m,h with
   | [x],h=>change (_&&_)=true at h;erw[Bz9] at h;show .inl (x,rfl,(Zg c e k Z b X x G h.1).2 h.2)
   | [],h=>left
   | _::_::_,h=>left)
theorem Zi2(c:Cfg):∀it:It,Yp6 c it
 | .seq e,k,Z,u,X,z,N,G,h,_=>by
  show PI.imp (Yo9 (Zg c e k Z u X N G h).1) λO H R zz=>?_;let(w,s,M,Q,S,g,q):=zz;show Zx S g λv m d r j n f b=>?_;have o:X.K=m.K:=by rw[j.K,S.K,G.eK]
  ext b itD;split at b
  .let(E,rfl):=Ze.mp f;let(T,B,A):=b;let(_,p,i,t,_):=n.listL B;rw[<-o] at i;show .inl (_,rfl,(p,i),q _ m _ _ r j n (Zr8 o E) A)
  .let(a,p,rfl,i,t):=Yd.mp f;show .inr (a,rfl,(p,.of i),q _ m _ _ r j n (Zj9 o (.of i) t) b)
  .let(a,p,rfl,i,t):=Pj.mp f;show .inr (a,rfl,(p,by rw[o];show i),q _ m _ _ r j n (Zj9 o i t) b)
  .show b.elim
 | .rng1 a,k,Z,u,X,z,N,G,h,_=>by
  let(Y,V,D,C,rfl,h):=Y0 h;let(x,U,rfl,h):=Zt h;let(rfl,h):=Yi h;let(l,rfl,h):=Ye h;change (_&&_)=true at h;erw[Bz9,beq_iff_eq,Iw] at h;let((((rfl,L),J),y),I):=h;let(g1,g2,g3):=G.gl L;show PI.imp (Zp2 g1 (G.blt _ J) (W4 (Zg c a k Z u X l G I).1 S4 (Zo y)) (Zo y)) λO H R zz=>?_;let(w,s,M,Q,S,g,q):=zz;show Zx S g λv m d r j n f b=>?_;split at b
  .cases Z9.mp f;show(_,rfl,b.1,b.2.1,q _ m _ _ r j n Yd9 b.2.2)
  .show b.elim
 | .enm a,k,Z,u,X,z,N,G,h,W=>by
  let(P,z0,tp,rfl,_):=F4 (F:=λ_=>true) (show Ye6 z (λ_=>true)=true by cases z<;>first | rfl | show W);let(Y,V,D,C,rfl,h):=Y0 h;let(x,U,rfl,h):=Zt h;let(rfl,h):=Yi h;let(l,rfl,h):=Ye h;change (_&&_)=true at h;erw[Bz9,beq_iff_eq,Iw] at h;let((((rfl,L),J),y),I):=h;let(g1,g2,g3):=G.gl L;show PI.imp (Y73 g1 (G.blt _ J) (W4 (Zg c a k Z u X l G I).1 S4 (Zo y)) (Zo y)) λO H R zz=>?_;let(w,s,M,Q,S,g,q):=zz;show Zx S g λv m d r j n f b=>?_;have o:X.K=m.K:=by rw[j.K,S.K,G.eK]
  split at b
  .let(E,rfl):=Ze.mp f;let(T,B,A):=b;let(_,p,i,t,_):=n.listL B;rw[<-o] at i;show(_,rfl,(p,i),q _ m _ _ r j n (Zy1 o E) A)
  .show b.elim
end
noncomputable def Z07:Expr->Bool
 | .ListComp .. | .SetComp .. | .DictComp ..=>false
 | _=>true
def Zm9:Expr->Bool
 | .Tuple ..=>false
 | _=>true
def notK:E->Bool
 | .compK ..=>false
 | _=>true
def notQ:E->Bool
 | .compQ ..=>false
 | _=>true
def Zv4(h:notQ e=false):∃c js a d q b,e= .compQ c js a d q b:=by
 cases e with
 | compQ c js a d q b=>show(_,_,_,_,_,_,rfl)
 | _=>show absurd h.symm Bf9
def Yh9:Expr->Bool
 | .Name ..=>true
 | _=>false
def Yp0(k:Ck)(t x:Expr):Bool:=match t,x with
 | .Name n b,.ListComp _ _ a p=>k.sc.kind== .function&&k.loc n&&b.line==p.line&&!(a.names.any fun#v[m,j]=>m==n&&(j== .local || j== .cell))
 | _,_=>false
def Yl0(k:Ck)(t x:Expr):Bool:=match t,x with
 | .Name n _,.ListComp ..=>k.sc.names.lookup n==some .cell
 | _,_=>false
def chkB(k:Ck)(h:Tk)(f:Nat)(es:Es):Stmt->Bool
 | .Expr (.Call (.Name x p) a [] q) _=>match h with
  | .drop=>chkE k (.call f es) (.Call (.Name x p) a [] q)
  | _=>false
 | .Return (some (.Call (.Name x p) a [] q)) _=>match h with
  | .ret=>chkE k (.call f es) (.Call (.Name x p) a [] q)
  | _=>false
 | .Assign [.Name n _] (.Call (.Name x p) a [] q) _=>match h with
  | .set i=>k.N[i]?==some n&&k.loc n&&chkE k (.call f es) (.Call (.Name x p) a [] q)
  | _=>false
 | _=>false
mutual
noncomputable def chkS(k:Ck):S->Stmt->Bool
 | .cont,.Continue _=>true
 | .ret e,.Return (some x) _=>chkE k e x
 | .expr e,.Expr x _=>Z07 x&&chkE k e x
 | .set d e,.Assign [t] x _=>Wn k d t&&chkE k e x&&((Z07 x&&(Yh9 t || Zm9 x)) || (Yp0 k t x&&(decide (d.length=1)&&notK e)) || Yl0 k t x)
 | .put o i v,.Assign [.Subscript l r _] x _=>Cv r&&Z07 x&&chkE k v x&&chkE k o l&&chkE k i r
 | .ite t a b,.If x c q _=>chkE k t x&&noIf t&&Tc k a c&&Tc k b q
 | .for_ d m b,.For t x c [] _=>k.calm&&k.loops&&Qb x&&Wn k d t&&Y88 k m x&&Tc k b c&&itTg m t
 | .forK d e b,.For t x c [] _=>k.calm&&k.loops&&Qb x&&Wn k d t&&chkE k e x&&Tc k b c
 | .while_ t b,.While x c [] _=>k.loops&&chkE k t x&&noIf t&&Tc k b c
 | .raise g j,.Raise y z _=>soO y λe=>Wd e λw c u _=>Xd w λx=>on0 u (noO z (k.calm&&k.raises.contains g&&k.GN[g]?==some x&&k.glob x&&decide (c.length<=1)&&Vq k j c))
 | .tryN h f j g s,.Try [A] [.ExceptHandler (some (.Name x _)) none (p::n) _] [] [] _=>k.calm&&k.tries&&k.GN[g]?==some x&&k.glob x&&chkB {k with tries:=false,raises:=[]} h f j A&&
   Tc {k with calm:=false,loops:=true,tries:=false,raises:=[]} s (p::n)
 | _,_=>false
noncomputable def Tc(k:Ck):Ss->List Stmt->Bool
 | .nil,[]=>true
 | .cons s r,x::a=>chkS k s x&&Tc k r a
 | _,_=>false
end
section
variable{c:Cfg}{k:Ck}{Z:DX}{w0:Vw}{X:Cx}
def C1{x:Expr}{t:Option Expr}{a:Nat}(h:Z07 x=true):swapsWith x t a env=pure false:=by cases x<;>first | rfl | cases h
def N7{i:L2.St}{w:Vw}{H:Hp}(S:StOk w0 w g M i H)(h:f RR g M)
  (n:∀b d a e,Ext w d->RS d e->REnv d a b->RR.nx a e->R.nx b d.H) (m:Aft w RR.rt R.rt)
  (l:∀b d a e,Ext w d->RS d e->REnv d a b->RR.bk a e->R.bk b d.H)
  (j:∀b d a e,Ext w d->RS d e->REnv d a b->RR.ct a e->R.ct b d.H):tFS w0 f R i H:=(w,g,M,RR,S,h,n,m,l,j)
def Yd4(X:Cx)(R:Ends):Ends:={nx:=λd H=>∃a o b,H a=some (.frz o (.dK b))/\(∀o u,X.H₀ a≠some (.frz o u))/\R.nx d (upd H a (.dK b)),rt:=λv H=>∃a o b,H a=some (.frz o (.dK b))/\(∀o u,X.H₀ a≠some (.frz o u))/\R.rt v (upd H a (.dK b))}
def Y59{st:Stmt}{t:TS}(h:PS X st t):PS X st (λR j H=>t (Yd4 X R) j H):=by
 intro d s j H D I q;show thn (h d s j H (Yd4 X D) I q) λf p i=>?_;cases f with
 | next=>let(b,n,g,a,o,m,e,l,q):=i;show(b,_,Z25 g e l,q)
 | brk=>let(b,n,g,q):=i;show q.elim
 | cont=>let(b,n,g,q):=i;show q.elim
 | ret u=>let(v,b,n,g,r,a,o,m,e,l,q):=i;show(v,b,_,Z25 g e l,r,q)
def REnv.ext0{w f:Vw}{a:DEnv}{b:L2.St}(h:REnv w a b)(x:Ext0 w f):REnv f a b:=
 (h.1,λi d e=>by let(v,q,r):=h.2 i d e;show(v,q,r.ext0 x))
def Zl3{w1:Vw}{J:L2.It}{own:Own}{xs:LD}{t:LQ}{body:DS}{L:Z2}{V:Hp}{o:DEnv}{n:L2.St}{RR:DEnds}{R:Ends}(S:StOk w0 w1 o L n V)(jk:JOk w1 J own xs)
  (h:forD own xs t body xs RR o L)
  (T:∀b f a g,Ext w1 f->RS f g->REnv f a b->RR.nx a g->R.nx b f.H) (h2:Aft w1 RR.rt R.rt):
  ∃W:Nat->Nat->L2.St->Hp->Prop,(∃m,W 0 m n V)/\∀i m n H,W i m n H->
   (J.stop i H/\R.nx n H)\/(J.go i H/\∃N:L2.St->Hp->Prop,(∀b H',N b H'->∃Q,Q<m/\W (i+1) Q b H')/\∀x H',J.yld i H x H'->gF w0 t x n H' λj H2=>tFS w0 body {R with nx:=N,ct:=N,bk:=R.nx} j H2):=by
 show(λi m n H=>∃w e M,StOk w0 w e M n H/\Ext w1 w/\i<=xs.length/\m=xs.length - i/\forD own xs t body (xs.drop i) RR e M,(xs.length,w1,o,L,S,Ext.refl _,nk _,rfl,h),?_);rintro i m F Hc ⟨w,e,M,l,z,hi,rfl,y⟩;have q:∀u:Jr own xs M,_:=λu=>jk w M z l.rs u i;rw[l.heap] at q;by_cases r:i<xs.length
 .rw[Hx r] at y;let(u,y):=y;let(j1,j2):=(q u).1 xs[i] (Aa r);show .inr (j1,λb H'=>∃w e M,StOk w0 w e M b H'/\Ext w1 w/\i+1<=xs.length/\forD own xs t body (xs.drop (i+1)) RR e M,?_,λx H' hy=>?_)
  .rintro b H' ⟨w2,j,M2,S2,Y,l2,f2⟩;show(xs.length - (i+1),'o',w2,j,M2,S2,Y,l2,rfl,f2)
  .let(P,rfl,p,U,G):=j2 x H' hy;show(P,e,M,xs[i],_,(rfl,l.ext.trans p,U,l.env.ext p),G,y,λj O E q2=>?_);have C:∀b f a g,Ext P f->RS f g->REnv f a b->forD own xs t body (xs.drop (i+1)) RR a g->
     ∃w e M,StOk w0 w e M b f.H/\Ext w1 w/\i+1<=xs.length/\forD own xs t body (xs.drop (i+1)) RR e M:=
    λb f a g s A K B=>(f,a,g,(rfl,(l.ext.trans p).trans s,A,K),(z.trans p).trans s,r,B)
   show N7 (rfl,l.ext.trans p,U,E) q2 C (λv f d g s A I B=>h2 v f d g ((z.trans p).trans s) A I B)
    (λb f a g s A K B=>T b f a g ((z.trans p).trans s) A K B) C
 .rw[List.drop_eq_nil_of_le 'o'] at y;let(u,hq):=y;show .inl ((q u).2 'o',?_);have:=T F w e M z l.rs l.env hq;rwa[l.heap] at this
def Yg4{o i value:Expr}(hu:X.A.units+1<cLine)(ho:PE X o td)(hi:PE X i ty)(hv:PE X value tv)(hs:swapsWith value (some (.Subscript o i pos')) pos.line X.env=pure false):
  PS X (.Assign [.Subscript o i pos'] value pos) (λR σ H=>tv σ H λv H1=>td σ H1 λx H2=>ty σ H2 λy H3=>Yp2 x y v H3 (λH4=>R.nx σ H4)\/∃a H4,x= .ref a/\DPut H3 a y v H4/\R.nx σ H4):=by
 intro pins s σ H D I h;show wpAny_Assign_Subscript (thn (hv pins s σ H _ I h) λr s1 (v,H1,I1,rv,q1)=>thn (ho pins s1 σ H1 _ I1 q1) λu s2 (x,H2,I2,rx,q2)=>thn (hi pins s2 σ H2 _ I2 q2) λiv s3 zz=>?_) hs;let(y,H3,I3,ry,q3):=zz;rcases q3 with q3|⟨a,H4,ex,g,q3⟩
 .show thn (Zt6 pins s3 σ H3 x y v u iv r (λH4=>D.nx σ H4) I3 rx ry rv q3) λ_ s4 zz=>by let(H4,I4,q4):=zz;show(σ,H4,I4,q4)
 .subst ex;obtain rfl:u=Value.ref a:=rx;show Zf9 hu I3 g ry rv λs4 I4=>(σ,H4,I4,q3)
def Zf8{E:XK}{x:Str}{J a pos:Pos}{n:Nat}{o:FuncData}{sp:Sp}{p:LW}{t:TA}(L:Leaves X E)(hc:X.calm=true)(u:ExcMk X.K C f)(F:FnOk X.prog X.w X.K X.mg X.base CX0 n f o ps sp)(U:Room (n+1) X.A)(hb:Yo X.K o ps p)(hd:Vals dvs p)(hg:Gl X x)(Y:X.mg x=↑C)
  (ha:PA X (e::es) t) (l:(x==("__debug__":Str))=false) (he:starEach (e::es) X.env=#v[false,eval e X.env]::starEach es X.env) (j:(backTo a (starEach es X.env)).any (·.1)=false):
  PS X (.Raise (some (.Call (.Name x J) (e::es) [] a)) none pos) (Y31 C sp dvs E t):=by
 intro d s B H D I h;rw[arm_exec_Raise];erw[show ∀e v,evalOpt (some e) v=some (eval e v) from λ_ _=>rfl,show ∀v,evalOpt none v=none from λ_=>rfl,Option.map];show Ac (Mn (Nl (C:=C) (I.ok.hd hc) ?_));show Ac (Hl (Q:=λv b=>∃(e:Uj) (M q:Str) (N:Uj) (bs bm:LW) (g:Bool) (G:LS) (i:LW) (ab:Bool) (m:Option Bool) (dd:Option Uj) (T S R P O:Option Uh) (dx:Option Uj),
   v= .ref e/\ExcCls b.heap C M q N bs bm g G i ab m dd T S R P O "ValueError" "ValueError.__new__"/\ExAt b.heap e (.ref C) dx .none/\X.xe (.ref e) b) ?_ (λv b z=>Ac (Mn (Ao z))) λ_ _ z=>z)
 show Ik (Wh I hg Y ?_ l);show PySem.W.callWith_K (h₀:=X.base) I.ok.mod.kin u.kp (thn (ha a d s B H _ I h) λus b (vs,H1,y,r,q)=>(y.kIn,?_)) he j;show Z23 L u F U hb hd y r q.1 q.2
end
def Zp0(c:Cfg)(s:S):Prop:=∀(k:Ck) (Z:DX) (a:Vw) (X:Cx) (b:Stmt),Good c k Z a X->chkS k s b=true->PS X b (tFS a (ts c Z s))
def Zg5(c:Cfg)(s:Ss):Prop:=∀(k:Ck) (Z:DX) (a:Vw) (X:Cx) (b:List Stmt),Good c k Z a X->Tc k s b=true->PSs X b (tFS a (tss c Z s))
section
variable{c:Cfg}{k:Ck}{Z:DX}{w0:Vw}{X:Cx}
def Good.noxG(G:Good c k Z w0 X):Good c {k with tries:=false,raises:=[]} noX w0 X.nox where
 hK:=G.hK
 wK:=G.wK
 N:=G.N
 nd:=G.nd
 sc:=G.sc
 calm:=G.calm
 units:=G.units
 fns:=λh f x d j i=>by let(g,f,l,e,m,b,n,a,h):=G.fns h f x d j i;show(g,f,l,e,m,b,n,a,h)
 flen:=G.flen
 glb:=G.glb
 blt:=G.blt
 exc:=(E0,λ_ _ _ _ _ _ _ h=>by
  let(_,_,_,_,_,_,_,_,_,_,_,_,_,_,_,h):=h;show h.elim,λo p q h=>by
  let(_,_,_,_,_,_,_,_,_,_,_,_,_,h):=h;show h.elim)
 stk:=λh=>by cases h
 rai:=λ_ h=>absurd h Bf9
 po:=λ_=>PassesOwn.never
 fnc:=G.fnc
 fno:=G.fno
def Good.heldG(G:Good c k Z w0 X)(e:Uj):Good c {k with calm:=false,loops:=true,tries:=false,raises:=[]} noX w0 (Held X e) where
 hK:=G.hK
 wK:=G.wK
 N:=G.N
 nd:=G.nd
 sc:=G.sc
 calm:=λh=>by cases h
 units:=G.units
 fns:=λh=>by cases h
 flen:=G.flen
 glb:=G.glb
 blt:=G.blt
 exc:=(E0,λ_ _ _ _ _ _ _ h=>by
  let(_,_,_,_,_,_,_,_,_,_,_,_,_,_,_,h):=h;show h.elim,λa b d h=>by
  let(_,_,_,_,_,_,_,_,_,_,_,_,_,h):=h;show h.elim)
 stk:=λh=>by cases h
 rai:=λ_ h=>absurd h Bf9
 po:=λ_=>PassesOwn.never
 fnc:=G.fnc
 fno:=G.fno
def tFX(w0:Vw)(g:DX->DE):TEX:=λh H Q E=>∃w a M e Z,StOk w0 w a M h H/\g Z a M e/\Aft w e Q/\∀b d f,xkOf w Z b d f->E b d f
def PEX.imp{t t':TEX}(h:PEX X e t)(q:∀a H Q E,t' a H Q E->t a H Q E):PEX X e t':=λb s a H Q E I z=>h b s a H Q E I (q a H Q E z)
def Zm4{s:Ss}{a:DEnv}:ts c Z (.tryN h f es g s) R a M=(match c.G[g]? with
  | some (.cls D)=>tes c noX es a M λd i=>match c.Γ[f]? with
   | some b=>b d i (tkD h R a) λC _ e=>Catch c.K C D true/\tss c noX s R a e
   | none=>False
  | _=>False):=rfl
def Zo3{sp:Sp}{b:LW}{x:Str}{p pos:Pos}(F:FnOk X.prog X.w X.K X.mg X.base (CX1 X.prog X.w) g f j ps sp)(n:Room g X.A)(t:Gl X x)(o:X.mg x=↑f)(r:Hm X.K (.ref f)=true)(v:Yo X.K j ps b)(i:Vals dvs b)
  (d:(x==("__debug__":Str))=false):PEX X (.Call (.Name x p) [] [] pos) (Y39 sp dvs tNil):=by
 intro e s B H Q E I h;show Ik (Wh I t o ?_ d);show PySem.W.callWith_K0 I.kIn r ?_;have q:([]++b).length=ps.length:=by have m:Vals ([]++dvs) ([]++b):=i;rw[<-m.length];show F.len _ _ _ _ h
 show Ly (Kw (F.run X.A X.stack s H ([],[]) ([]++b) ([]++dvs) Q E n I.env0 (v s [] I.kIn q) i h) λl C a=>?_);cases l with
 | error z=>show Yk4 I a
 | ok y=>
  cases y with
  | ret u=>show I.after a
  | next=>show Dq a
  | brk=>show Dq a
  | cont=>show Dq a
def Vy{x:Str}{i:List Expr}(G:Good c k Z w0 X)(h:chkE {k with tries:=false,raises:=[]} (.call f es) (.Call (.Name x J) i [] pos)=true):PEX X (.Call (.Name x J) i [] pos) (tFX w0 λZ=>λb M j=>tes c noX es b M λt D=>match c.Γ[f]? with
  | some s=>s t D j Z
  | none=>False):=by
 change (_&&_)=true at h;erw[Bz9,beq_iff_eq] at h;let(((hc,P),hg),d):=h;let(g1,g2,g3):=G.gl hg;cases p:c.Γ[f]? with
 | none=>have h1:=(Ab.mp P).1;have h2:=List.getElem?_eq_none_iff.mp p;rw[G.flen] at h1;lia
 | some s=>
  let(kk,fa,fd,pr,t,A,dD,y,F,L,N,O,T,R,hD,o):=G.fns hc f x s P p;have n:∀m H Q E,tFX w0 (λZ=>λb M j=>tes c noX es b M λt D=>s t D j Z) m H Q E->tFA w0 (tes c noX es) m H λI H1=>spF X.K y (I++A) H1 Q E:=by
   rintro m H Q E ⟨w,b,M,j,Z',S,g,a,U⟩;show(w,b,M,_,S,g,λI v B M' u V z W=>?_);have q:v.K=X.K:=by rw[u.K,S.K,G.eK]
   show(v,B++dD,M',j,Z',q,rfl,V,z.append (hD v q),o _ _ _ _ W,a.ext u,λC dd H' hx=>U C dd H' (E4 u hx))
  cases i with
  | nil=>
   show PEX.imp (Zo3 F L g1 N O T R g2) λm H Q E h=>?_;let(w,b,M,j,S,g,a):=n m H Q E h;cases es with
   | nil=>have:=a [] w [] M (Ext.refl w) S.rs (RDs.nil w) g;rwa[S.heap] at this
   | cons e r=>show absurd d Bf9
  | cons l i=>
   cases es with
   | nil=>show absurd d Bf9
   | cons e r=>have Y:=(Xl c (.cons e r) _ _ w0 X.nox (l::i) G.noxG d).1;change (_&&_)=true at d;erw[Bz9] at d;show PEX.imp (Zq6 F L g1 N O T R Y g2 (Zo d.1.2) (Q4 (Xv r i d.2))) n
def Yr7(K:Ae)(D:Uj)(e:TSX)(d:TS):TS:=λR b H=>e R (λa g f=>∃C,a= .ref C/\Catch K C D true/\d R b f) b H
def Yc7{body d:List Stmt}{i:Stmt}{x:Str}{D:Uj}(hb:PSX X body O)(hs:∀e,PSs (Held X e) (i::d) N)(hg:Gl X x)(hm:X.mg x=↑D)(L:X.stack=X.env::X.outer)(hf:X.env.frame=some X.env.locals)
  (t:(x==("__debug__":Str))=false:=by decide):PS X (.Try body [.ExceptHandler (some (.Name x np)) none (i::d) m] [] [] pos) (Yr7 X.K D O N):=by
 intro a s p H R I h;show wpAny_Try_except (Hl (hb a s p H R _ I h) (λf g q=>?_) λy g q=>?_)
 .cases f with
  | next=>show Lr q
  | ret v=>show q
  | brk=>show q
  | cont=>show q
 let(e,T,z0,dd,o,rfl,n,ft,w,he,Y,t1,C,rfl,S,q):=q;show El (outer:=X.outer) (base:=X.base) (L:=X.env.locals) (by rw[<-L];show n.ok.frames) (by rw[<-L];show n.stack) hf Y t1 w λA T1 J G F U Q=>?_;have I2:Inv X a p o {g with heap:=A}:=Zx2 n ft he F (by rw[L];show Q);have P:FpOk X a o T1:=n.fpOk J (n.hok.fresh J);show Sb (s:={g with heap:=A}) F U G λr M t3 k3 _=>?_;have I3:Inv X a p o {g with heap:=r}:=Z17 (s:={g with heap:=A}) I2 P k3;have B:=Ya4 I3 e;show wpAny_handleBy_cons (codeAny_handlers_test ?_) (by intro z;cases z);show Wh (X:=Held X e) B hg hm ?_ t;let(oe,vs,W,(V,y3),y4,y5):=id M;show B2 (s:={g with heap:=r}) B.kIn S W V ?_;show PySem.codeAny_handlers_suite ?_;show Sb (s:={g with heap:=r}) M t3 G λh4 x4 t4 k4 _=>?_;have J4:Inv (Held X e) a p o {g with heap:=h4}:=Z17 (s:={g with heap:=r}) B P k4;show Hl (hs e a _ _ o _ J4 q) (λf s6 b=>?_) λ_ _ z=>z.elim;cases f with
 | next=>let(j,E,l,b):=b;show(_,_,Q0 I.ok l,b)
 | brk=>let(j,E,l,b):=b;show(_,_,Q0 I.ok l,b)
 | cont=>let(j,E,l,b):=b;show(_,_,Q0 I.ok l,b)
 | ret u=>let(v,j,E,l,rv,b):=b;show(v,_,_,Q0 I.ok l,rv,b)
set_option tactic.hygienic true in
def Z80{x:Str}(G:Good c k Z w0 X)(hc:k.calm=true)(ht:k.tries=true)(hg:k.GN[g]?=some x)(hgl:k.glob x=true)
  (hb:chkB {k with tries:=false,raises:=[]} h f es bs=true) (hs:Tc {k with calm:=false,loops:=true,tries:=false,raises:=[]} sx (s0::ss)=true) (ih:Zg5 c sx):
  PS X (.Try [bs] [.ExceptHandler (some (.Name x np)) none (s0::ss) hp] [] [] pos) (tFS w0 (ts c Z (.tryN h f es g sx))):=by
 let(g1,g2,g3):=G.gl hgl;let(st1,st2):=G.stk ht;have never:(∀D,c.G[g]?≠some (.cls D))->PS X (.Try [bs] [.ExceptHandler (some (.Name x np)) none (s0::ss) hp] [] [] pos) (tFS w0 (ts c Z (.tryN h f es g sx))):=λno=>
  PS.imp Bm λR σ H zy8=>by
   let(w,σD,M,RR,S,q,_):=zy8;rw[Zm4] at q;split at q
   .rename_i D e;show(no D e).elim
   .show q
 by_cases hD:∃D,c.G[g]?=some (.cls D)
 .let(Dc,hD):=hD;let(v,u,q1,q2,q3):=G.glb g x _ hg hD;have hv:v= .ref Dc:=N6.mp (q3 (X.K,λ_=>none,λ_=>0,0) rfl);subst hv;cases (show u=Value.ref Dc from q2);have suite:∀e,PSs (Held X e) (s0::ss) (tFS w0 (tss c noX sx)):=λe=>ih _ _ w0 (Held X e) (s0::ss) (G.heldG e) hs;have key:∀(R:Ends) (σ:L2.St) (H:Hp) (Q:VK),tFS w0 (ts c Z (.tryN h f es g sx)) R σ H->(∀(RR:DEnds) (σD:DEnv) (w:Vw),REnv w σD σ->(∀σ' w' σD' M',Ext w w'->RS w' M'->REnv w' σD' σ'->RR.nx σD' M'->R.nx σ' w'.H)->Aft w RR.rt R.rt->Aft w (tkD h RR σD) Q)->
    tFX w0 (λZ=>λσD M QD=>tes c noX es σD M λds M1=>match c.Γ[f]? with
     | some sp=>sp ds M1 QD Z
     | none=>False) σ H Q (λcls dd H1=>∃C,cls= .ref C/\Catch X.K C Dc true/\tFS w0 (tss c noX sx) R σ H1):=by
   rintro R σ H Q ⟨w,σD,M,RR,S,q,h1,h2,h3,h4⟩ hQ;rw[Zm4] at q;rw[hD] at q;show(w,σD,M,tkD h RR σD,_,S,q,hQ RR σD w S.env h1 h2,?_);rintro cls dd H' ⟨C,dx,r,w',row,M',rfl,rfl,rfl,x',r',z1,z2,z3,z4⟩;show(C,rfl,by rw[G.hK];show z3,?_);show N7 (RR:=RR) (rfl,S.ext.trans x',r',S.env.ext x') z4 ?_ ?_ ?_ ?_
   .show λσ' w2 σD' M2 x2 r2 e2 q2=>h1 _ w2 _ M2 (x'.trans x2) r2 e2 q2
   .show h2.ext x'
   .show λσ' w2 σD' M2 x2 r2 e2 q2=>h3 _ w2 _ M2 (x'.trans x2) r2 e2 q2
   .show λσ' w2 σD' M2 x2 r2 e2 q2=>h4 _ w2 _ M2 (x'.trans x2) r2 e2 q2
  have fin:∀{tb:TSX},PSX X [bs] tb->(∀R σ H,tFS w0 (ts c Z (.tryN h f es g sx)) R σ H->tb R (λcls dd H1=>∃C,cls= .ref C/\Catch X.K C Dc true/\tFS w0 (tss c noX sx) R σ H1) σ H)->
    PS X (.Try [bs] [.ExceptHandler (some (.Name x np)) none (s0::ss) hp] [] [] pos) (tFS w0 (ts c Z (.tryN h f es g sx))):=fun{tb} hb' hk=>
   PS.imp (Yc7 hb' suite g1 q1 st1 st2 g2) hk
  ext hb chkB;split at hb
  .split at hb
   .refine fin (Zx1 (Vy G hb) rfl) λR σ H q=>key R σ H _ q λRR σD w env h1 h2=>λv w' d M' x' r' rd' q'=>h1 σ w' σD M' x' r' (env.ext x') q'
   .cases hb
  .split at hb
   .refine fin (Y65 (Vy G hb)) λR σ H q=>key R σ H _ q λRR σD w env h1 h2=>h2
   .cases hb
  .split at hb
   .rename_i j;erw[Bz9,beq_iff_eq] at hb;let((hb1,hb2),hb3):=hb;have hj:=(congrArg (λN:LS=>N[j]?) G.N).trans hb1;ext hb2 Ck.loc;have hjl:=Ll hb2;dsimp only at hjl;rw[<-G.sc] at hjl;show fin (Y63 G.nd hj (.inl hjl) (Vy G hb3) rfl (.inr hjl)) λR σ H q=>key R σ H _ q λRR σD w env h1 h2=>λv w' d M' x' r' rd' q'=>h1 _ w' _ M' x' r' ((env.ext x').set j rd') q'
   .cases hb
  .cases hb
 .show never λD e=>hD (D,e)
def Z87{H:Hp}{e d:Uj}{a b c' d':HO}(h:(upd H e a) d=none):upd (upd (upd (upd H e a) d b) e c') e d'=upd (upd H d b) e d'/\d≠e:=by
 have f:d≠e:=by rintro rfl;rw[Zc] at h;cases h
 show(?_,f);funext p;ext upd;by_cases i:p=e
 .simp[i]
 .by_cases g:p=d
  .simp[g,f]
  .simp[i,g]
def Z35{c:Cfg}{k:Nat}{a:DEnv}:ts c Z (.raise k es) R a M=(match c.G[k]? with
  | some (.cls C)=>tes c Z es a M λb d=>match excD b with
   | some r=>Z C r d
   | none=>False
  | _=>False):=rfl
set_option tactic.hygienic true in
def Et{x:Str}{p:List Expr}(G:Good c k Z w0 X)(hc:k.calm=true)(hr:k.raises.contains g=true)(hg:k.GN[g]?=some x)(r0:k.glob x=true)(hn:p.length<=1)(A:Vq k es p=true)(ih:PA X p (tFA w0 (tes c Z es))):
  PS X (.Raise (some (.Call (.Name x np) p [] v0)) none pos) (tFS w0 (ts c Z (.raise g es))):=by
 let(g1,g2,g3):=G.gl r0;by_cases Q:∃C,c.G[g]?=some (.cls C)
 .let(C,Q):=Q;let(v,u,q1,q2,q3):=G.glb g x _ hg Q;have hv:v= .ref C:=N6.mp (q3 (X.K,λ_=>none,λ_=>0,0) rfl);subst hv;cases (show u=Value.ref C from q2);let((E,L,xk),rs):=G.rai g hr;let(kk,f,fd,Mk,F,t,b1,b0,S0):=rs C Q;have Y:∀(R:Ends) (s:L2.St) (H:Hp) (P:LV) (u0:LD->D),(∀(w:Vw) j m r,excD j=some r->RDs w j m->j.length=p.length->∃y,m++P=[y]/\RD w r y)->(∀i M I,tes c Z es i M I->tes c Z es i M λj J=>j.length=p.length/\I j J)->tFS w0 (ts c Z (.raise g es)) R s H->
    tFA w0 (tes c Z es) s H λm H1=>m.length<=8/\∀e,H1 e=none->Om X.K (.ref e::(m++P)) (upd H1 e (XN e (.ref C) none)) (λv H2=>v= .non/\∃dd,H2 e=some (XN e (.ref C) dd)/\E (.ref C) dd (upd H2 e (XO e (.ref C) dd))) E0:=by
   rintro R s H P u0 z0 y0 ⟨w,i,M,RR,S,q,_⟩;rw[Z35] at q;rw[Q] at q;show(w,i,M,_,S,y0 _ _ _ q,λm U j M' x' r' t0 W=>?_);let(hl,W):=W;split at W
   .rename_i r er;let(y,ey,ry):=z0 U j m r er t0 hl;have s0:m.length<=8:=by have:=congrArg Ug ey;simp at this;lia
    show(s0,λe he=>(e,C,y,by rw[ey],Zc,S0,λn O=>(rfl,some n,Zc,?_)));let(eH,N):=Z87 (b:= .xd [#v["row",y]]) (c':=XN e (.ref C) (some n)) (d':=XO e (.ref C) (some n)) O;rw[eH];have B:U.H n=none:=by rw[Z6 N] at O;show O
    have x0:(U.alloc n (.xd [#v["row",y]])).H e=none:=by change upd U.H n _ e=none;rw[Z6 (Il N)];show he
    have y1:=Xa (o:= .xd [#v["row",y]]) B;have y2:=Xa (o:=XO e (.ref C) (some n)) x0;have T:=y1.trans y2;show xk _ _ _ (C,n,y,(U.alloc n (.xd [#v["row",y]])).alloc e (XO e (.ref C) (some n)),r,M',rfl,rfl,rfl,(S.ext.trans x').trans T,(r'.alloc B).alloc x0,?_,ry.ext T,W);rw[Z6 N,Zc]
   .show W.elim
  cases p with
  | nil=>
   cases es with
   | cons e r=>show absurd A Bf9
   | nil=>
    show PS.imp (Zm1 L (G.calm hc) Mk F t b1 (dvs:=[.non]) (.cons rfl .nil) g1 q1 g2) λR s H h=>?_;let(w,i,M,I,S,q,a):=Y R s H [.non] (λ_=> .non) (λw j m r er rd hl=>by
     cases Du.mp hl;cases rds0 rd;cases er;show(.non,rfl,Zq.mpr rfl)) (λi M I h=>(rfl,h)) h
    have:=a [] w [] M (Ext.refl w) S.rs (RDs.nil w) q;rwa[S.heap] at this
  | cons l p=>
   cases p with
   | cons _ _=>simp at hn
   | nil=>
    cases es with
    | nil=>show absurd A Bf9
    | cons ee r=>
     cases r with
     | cons _ _=>change (_&&_)=true at A;erw[Bz9] at A;show absurd A.2 Bf9
     | nil=>
      change (_&&_)=true at A;erw[Bz9] at A;show PS.imp (Zf8 L (G.calm hc) Mk F t b0 (dvs:=[]) .nil g1 q1 ih g2 (Zo A.1.2) rfl) λR s H h=>?_;show Y R s H [] (λ_=> .non) (λw j m r er rd hl=>by
       match j,hl with
       | [d],_=>
        let(y,rfl,ry):=rds1 rd;cases er;show(y,rfl,ry)) (λi M I h=>by
       have e:(fun(d:D) (J:Z2)=>I [d] J)=λd J=>[d].length=[l].length/\I [d] J:=by funext d J;show propext (λz=>(rfl,z),λz=>z.2)
       have h':te c Z ee i M fun(d:D) (J:Z2)=>I [d] J:=h;rw[e] at h';show h') h
 .refine PS.imp Bm λR s H zz=>?_;let(w,i,M,RR,S,q,_):=zz;rw[Z35] at q;split at q
  .rename_i C e;show(Q (C,e)).elim
  .show q
end
def Z54{k:Ck}{t x:Expr}(h:Yp0 k t x=true):∃n b c a scope p,t= .Name n b/\x= .ListComp c a scope p:=by
 cases t with
 | Name n b=>
  cases x with
  | ListComp c a scope p=>show(_,_,_,_,_,_,rfl,rfl)
  | _=>left
 | _=>left
def Z68{k:Ck}{t x:Expr}(h:Yl0 k t x=true):∃n b c a scope p,t= .Name n b/\x= .ListComp c a scope p/\k.sc.names.lookup n=some .cell:=by
 cases t with
 | Name n b=>
  cases x with
  | ListComp c a scope p=>show(_,_,_,_,_,_,rfl,rfl,Ll h)
  | _=>left
 | _=>left
def Z89{k:Ck}{a:List Comprehension}{p:Pos}(h:chkE k e (.ListComp m a scope p)=true)(j:notK e=true)(i:notQ e=true):
  ∃f js c it cd d t iter b,e= .comp f js c it cd d/\a=[(t,iter,b,0)]:=by
 cases e with
 | comp f js c it cd d=>let(_,_,_,_,l,h):=Q2 h;cases l;let(g,rfl,h):=Ye h;let(t,iter,b,n):=g;let(rfl,_):=Nr h;show(_,_,_,_,_,_,_,_,_,rfl,rfl)
 | compK _ _ _ _ _=>show absurd j Bf9
 | compQ _ _ _ _ _ _=>show absurd i Bf9
 | _=>left
def Zg4(c:Cfg)(C:LQ)(e:E):Zp0 c (.set C e):=by
  intro k Z w0 X st G h;cases st with
  | Assign x0 x j=>
   match x0,h with
   | [t],h=>
    change (_&&_)=true at h;erw[Bz9,Bool.or_eq_true,decide_eq_true_eq] at h;let((l,L),h):=h;rcases h with(⟨hc,A⟩|⟨A,W,v0⟩)|A
    rotate_left 2
    .let(n,s,T,D,a,p,rfl,rfl,O):=Z68 A;have P:swapsWithSole [.Name n s] (.ListComp T D a p) j.line X.env=pure false:=by
      have Y:X.env.kindOf n=some .cell:=by ext Env.kindOf;rw[G.sc];show O
      have u0:(X.env.kindOf n==some NameKind.local)=false:=by rw[Y];rfl
      unfold swapsWithSole swapsWith;erw[u0,Bool.and_false,Bool.false_and]
     show PS.imp (Y38 (Zg c e k Z w0 X _ G L).1 (G.tgt C _ l) P rfl rfl) λR σ H zz=>?_;let(w,f,M,RR,S,q,I,q2,q3,q4):=zz;show Zx S q λv u d B o y g J=>?_;show(u,f,B,d,_,S.next o y,g,J,λF m e' z=>I F u m B o y e' z)
    .have P:swapsWithSole [t] x j.line X.env=pure false:=C1 hc;have h2:swappedStores [t] x X.env=pure none:=by
      cases t with
      | Name n p=>cases x<;>rfl
      | Tuple es kk p=>have:Zm9 x=true:=A.resolve_left Bf9;cases x<;>first | rfl | cases this
      | _=>show absurd l Bf9
     have h3:(assignEach [t] X.env).map (·.2)=[assign t X.env]:=by
      cases t with
      | Name n p=>rfl
      | Tuple es kk p=>rfl
      | _=>show absurd l Bf9
     show PS.imp (Y38 (Zg c e k Z w0 X x G L).1 (G.tgt C t l) P h2 h3) λR σ H zz=>?_;let(w,f,M,RR,S,q,I,q2,q3,q4):=zz;show Zx S q λv u d B o y g J=>?_;show(u,f,B,d,_,S.next o y,g,J,λF m e' z=>I F u m B o y e' z)
    .match C,W,l with
     | [i],_,l=>
      let(n,s,T,D,a,p,rfl,rfl):=Z54 A;rcases Bool.eq_false_or_eq_true (notQ e) with hqe|hqe
      rotate_left
      .let(N',js,C,dd,qq,e,rfl):=Zv4 hqe;let(s0,Q,b,qx,y0,p',t0,z0):=Pb L;cases t0;erw[Bz9,decide_eq_true_eq] at z0;let((((((((P,h2),h3),h4),h5),h6),h7),h8),h9):=z0;change (_&&_)=true at l;erw[Bz9,beq_iff_eq] at l;change (_&&_&&_&&!_)=true at A;erw[Bz9,beq_iff_eq,Bool.not_eq_true'] at A;let(((s1,U),s3),s4):=A;have r:X.env.scope.names.lookup n=some .local:=by ext U Ck.loc;rw[G.sc];show Ll U
       have K:swapsWith (.ListComp T [(Q,b,[qx],0)] a p) (some (.Name n s)) j.line X.env=pure true:=by
        ext swapsWith;have hb:(X.env.blockKind==ScopeKind.function)=true:=by ext Env.blockKind;rw[G.sc,s1];rfl
        have Y:(X.env.kindOf n==some NameKind.local)=true:=by ext Env.kindOf;rw[r];rfl
        have hp:(s.line==(Expr.ListComp T [(Q,b,[qx],0)] a p).pos.line)=true:=by show(s.line==p.line)=true;rw[s3];simp
        erw[hb,Y,hp,s4,Bool.not_false,Bool.and_self]
       show PS.imp ((Pe G P h2 h3 h5 (Zg c dd k Z w0 X b G h4).1 h6 h7 h8 h9 (Zg c qq) (Zg c e)).2 i n s j (by rw[G.N];show l.1) r K) λR σ H zz=>?_;let(w,f,M,RR,S,q,I,q2,q3,q4):=zz;have q:te c Z (.compQ N' js C dd qq e) f M λd M1=>RR.nx (f.set i (some d)) M1:=q;show Zx S q λv u d B o y g J=>?_;show I _ u _ B o y ((S.env.ext o).set i g) J
      let(N',js,C,it,cd,e,Q,b,V,rfl,rfl):=Z89 L v0 hqe;change (_&&_)=true at L;erw[Bz9,decide_eq_true_eq] at L;let((((((((P,h2),h3),h4),h5),h6),h7),h8),h9):=L;change (_&&_)=true at l;erw[Bz9,beq_iff_eq] at l;change (_&&_&&_&&!_)=true at A;erw[Bz9,beq_iff_eq,Bool.not_eq_true'] at A;let(((s1,U),s3),s4):=A;have r:X.env.scope.names.lookup n=some .local:=by ext U Ck.loc;rw[G.sc];show Ll U
      have K:swapsWith (.ListComp T [(Q,b,V,0)] a p) (some (.Name n s)) j.line X.env=pure true:=by
       ext swapsWith;have hb:(X.env.blockKind==ScopeKind.function)=true:=by ext Env.blockKind;rw[G.sc,s1];rfl
       have Y:(X.env.kindOf n==some NameKind.local)=true:=by ext Env.kindOf;rw[r];rfl
       have hp:(s.line==(Expr.ListComp T [(Q,b,V,0)] a p).pos.line)=true:=by show(s.line==p.line)=true;rw[s3];simp
       erw[hb,Y,hp,s4,Bool.not_false,Bool.and_self]
      show PS.imp ((Px G P h2 h3 h5 (Zi2 c it k Z w0 X Q b G h4 h9) h6 h7 h8 (Zg c e) (Pw c cd)).2 i n s j (by rw[G.N];show l.1) r K) λR σ H zz=>?_;let(w,f,M,RR,S,q,I,q2,q3,q4):=zz;have q:te c Z (.comp N' js C it cd e) f M λd M1=>RR.nx (f.set i (some d)) M1:=q;show Zx S q λv u d B o y g J=>?_;show I _ u _ B o y ((S.env.ext o).set i g) J
     | [],W,_=>simp at W
     | _::_::_,W,_=>simp at W
   | [],h=>left
   | _::_::_,h=>left
  | _=>left
def Ze5(c:Cfg)(o i v:E):Zp0 c (.put o i v):=by
  intro k Z J X Y G h;cases Y with
  | Assign K x z0=>
   match K,h with
   | [t],h=>
    cases t with
    | Subscript l r p=>
     change (_&&_)=true at h;erw[Bz9] at h;let((((h1,h2),h3),h4),h5):=h;show PS.imp (Yg4 (by have:=G.units;lia) (Zg c o k Z J X l G h4).1 (Zg c i k Z J X r G h5).1 (Zg c v k Z J X x G h3).1 (C1 h2)) λR O H zz=>?_;let(w,g,M,RR,S,q,T,q2,q3,q4):=zz;show Zx S q λvv w1 dv M1 f Q y V=>?_;show Zx (S.next f Q) V λvo w2 x0 M2 e r2 N U=>?_;show Zx ((S.next f Q).next e r2) U λvi w3 di M3 d z u C=>?_;split at C
     .let(B,rfl):=Ze.mp (N.ext d);rcases C with⟨xs,A,j,rfl,I,F,D⟩|⟨y0,A,I,F,D,W⟩
      .cases Z9.mp u;let(B,P,n,m):=z.list I;let(s,L):=Yr z B n (m.set (y.ext (e.trans d)) j);show .inl (_,P,A,j,rfl,rfl,n,by rw[m.length];show F,T O _ g _ (((f.trans e).trans d).trans s) L (S.env.ext (((f.trans e).trans d).trans s)) D)
      .let(B,P,n,m):=z.dict I;cases R6 F u;let(s,L):=Pq z B n (m.put (k:=A) (y.ext (e.trans d)));show .inr (_,_,rfl,DPut.k (k:=A) n (by rw[m.length];show D),T O _ g _ (((f.trans e).trans d).trans s) L (S.env.ext (((f.trans e).trans d).trans s)) W)
     .show C.elim
    | _=>left
   | [],h=>left
   | a::b::r,h=>cases a<;>left
  | _=>left
def Za8{k:Ck}{j:Tk}{f:Nat}{es:Es}{g:Nat}{s:Ss}{st:Stmt}(h:chkS k (.tryN j f es g s) st=true):∃l x e d c i pos,st= .Try [l] [.ExceptHandler (some (.Name x e)) none (d::c) i] [] [] pos/\
  (k.calm&&k.tries&&k.GN[g]?==some x&&k.glob x&&chkB {k with tries:=false,raises:=[]} j f es l&&
   Tc {k with calm:=false,loops:=true,tries:=false,raises:=[]} s (d::c))=true:=by
 cases st with
 | Try b p o f pos=>
  cases b with
  | nil=>left
  | cons v u=>
  cases u with
  | cons _ _=>left
  | nil=>
  cases p with
  | nil=>left
  | cons r q=>
  cases r with
  | ExceptHandler a m t i=>
  cases a with
  | none=>left
  | some a=>
  cases a with
  | Name x e=>
   cases m with
   | some n=>left
   | none=>
   cases t with
   | nil=>left
   | cons d c=>
   cases q with
   | cons _ _=>left
   | nil=>
   cases o with
   | cons _ _=>left
   | nil=>
   cases f with
   | cons _ _=>left
   | nil=>show(_,_,_,_,_,_,_,rfl,h)
  | _=>left
 | _=>left
def Cp{k:Ck}{g:Nat}{es:Es}{st:Stmt}(h:chkS k (.raise g es) st=true):∃x b a c pos,st= .Raise (some (.Call (.Name x b) a [] c)) none pos/\
  (k.calm&&k.raises.contains g&&k.GN[g]?==some x&&k.glob x&&decide (a.length<=1)&&Vq k es a)=true:=by
 cases st with
 | Raise i j pos=>let(e,rfl,h):=En (F:=λe=>_) h;let(f,a,d,c,rfl,h):=Y0 h;let(x,b,rfl,h):=Zt h;let(rfl,h):=Yi h;let(rfl,h):=Qf h;show(_,_,_,_,_,rfl,h)
 | _=>left
set_option tactic.hygienic true in
mutual
theorem Yh4(c:Cfg):∀s:S,Zp0 c s
 | .cont,k,Z,p,X,C,G,h=>by
  cases C with
  | Continue E=>show PS.imp C4 λR P H zz=>?_;let(w,u,M,RR,S,q,K,I,L,F):=zz;have:=F P w u M (Ext.refl w) S.rs S.env q;rwa[S.heap] at this
  | _=>left
 | .ret e,k,Z,p,X,C,G,h=>by
  cases C with
  | Return v E=>
   cases v with
   | some x=>show PS.imp (Y19 (Zg c e k Z p X x G h).1) λR P H zz=>by let(w,u,M,RR,S,q,K,I,L,F):=zz;show Zx S q I
   | none=>left
  | _=>left
 | .expr e,k,Z,p,X,C,G,h=>by
  cases C with
  | Expr x E=>change (_&&_)=true at h;erw[Bz9] at h;show PS.imp (Yc1 (Zg c e k Z p X x G h.2).1 (C1 h.1)) λR P H zz=>by let(w,u,M,RR,S,q,K,I,L,F):=zz;show Zx S q λv y d B A D z0 q'=>K P y u B A D (S.env.ext A) q'
  | _=>left
 | .set tg e,k,Z,p,X,C,G,h=>Zg4 c tg e k Z p X C G h
 | .put o i v,k,Z,p,X,C,G,h=>Ze5 c o i v k Z p X C G h
 | .ite t a b,k,Z,p,X,C,G,h=>by
  cases C with
  | If x ls rs E=>
   change (_&&_)=true at h;erw[Bz9] at h;let(((K,I),L),F):=h;show PS.imp (Yu6 ((Zg c t k Z p X x G K).2 I) (W0 c a k Z p X ls G L) (W0 c b k Z p X rs G F)) λR P H zz=>?_;let(w,u,M,RR,S,q,q1,q2,q3,q4):=zz;show(w,u,M,_,S,q,λz Y M1 N r1 U=>?_);have u0:∀{f:DS},f RR u M1->tFS p f R P Y.H:=λhf=>N7 (S.next N r1) hf (λl y j B A D O z=>q1 l y j B (N.trans A) D O z) (q2.ext N)
    (λl y j B A D O z=>q3 l y j B (N.trans A) D O z) (λl y j B A D O z=>q4 l y j B (N.trans A) D O z)
   cases z with
   | true=>rw[ng rfl] at U;change if (true:Bool)=true then _ else _;rw[ng rfl];show u0 U
   | false=>rw[nc Bf9] at U;change if (false:Bool)=true then _ else _;rw[nc Bf9];show u0 U
  | _=>left
 | .for_ tg it b,k,Z,p,X,C,G,h=>by
  cases C with
  | For t x ls Q E=>
   cases Q with
   | nil=>
    change (_&&_)=true at h;erw[Bz9] at h;let((((((K,I),L),F),h5),h6),h7):=h;have hf:∀v,foldedSetIterable x X.env v=pure v:=by intro v;cases x<;>first | rfl | cases L
    show PS.imp (Y08 (G.po I) (G.calm K) (Zi2 c it k Z p X t x G h5 h7) (G.tgt tg t F) (W0 c b k Z p X ls G h6) hf) λR P H zz=>?_;let(w,u,M,RR,S,q,q1,q2,q3,q4):=zz;show(w,u,M,_,S,q,λJ Y o0 xs M1 N r1 jk z=>?_);show Zl3 (S.next N r1) jk z (λl y j B A D O z=>q1 l y j B (N.trans A) D O z) (q2.ext N)
   | cons _ _=>left
  | _=>left
 | .forK tg e b,k,Z,p,X,C,G,h=>by
  cases C with
  | For t x ls Q E=>
   cases Q with
   | nil=>
    change (_&&_)=true at h;erw[Bz9] at h;let(((((K,I),L),F),h5),h6):=h;have hf:∀v,foldedSetIterable x X.env v=pure v:=by intro v;cases x<;>first | rfl | cases L
    show PS.imp (Y59 (Y08 (G.po I) (G.calm K) (Ja (Zg c e k Z p X x G h5).1) (G.tgt tg t F) (W0 c b k Z p X ls G h6) hf)) λR P H zz=>?_;let(w,u,M,RR,S,q,q1,q2,q3,q4):=zz;show Zx S q λv Y d M1 N r1 r0 z=>?_;split at z
    .let(hn,rfl):=Ze.mp r0;let(q0,z1,z2):=z;let(hM,vs,U,y2):=r1.dict z1;show(_,vs,rfl,U,λo nf=>?_);rename_i _ n;have x2:Ext Y (Y.alloc (Y.μ n) (.frz o (.dK vs))):=Yv U rfl;have r2:RS (Y.alloc (Y.μ n) (.frz o (.dK vs))) (M1.set n (.fdc q0)):=r1.write hM rfl rfl U rfl (o,vs,Zc,y2.ext x2);show Zl3 (R:=Yd4 X R) (S.next (N.trans x2) r2) (Jv (w1:=Y.alloc (Y.μ n) (.frz o (.dK vs))) (n:=n) hn Zc) z2 (λl y j B A D O (v0,t1,t2)=>?_) (λv y d B A D z0 (v0,t1,t2)=>?_)
     .let(a1,a2,a3,a4):=Tw hn U A D t1;show(_,o,vs,a1,nf,q1 l _ j _ (N.trans a2) a4 (O.ext0 a3) t2)
     .let(a1,a2,a3,a4):=Tw hn U A D t1;show(_,o,vs,a1,nf,q2 v _ d _ (N.trans a2) a4 (z0.ext0 a3) t2)
    .show z.elim
   | cons _ _=>left
  | _=>left
 | .while_ t b,k,Z,p,X,C,G,h=>by
  cases C with
  | While x ls Q E=>
   cases Q with
   | nil=>
    change (_&&_)=true at h;erw[Bz9] at h;let(((K,I),L),F):=h;show PS.imp (Zv8 (G.po K) ((Zg c t k Z p X x G I).2 L) (W0 c b k Z p X ls G F)) λR P H zz=>?_;let(w,u,M,RR,S,q,q1,q2,q3,q4):=zz;let(W,(m0,p0),y0):=q;show(λm P H=>∃V r T,StOk p V r T P H/\Ext w V/\W m r T,(m0,w,u,M,S,Ext.refl w,p0),?_);rintro m t0 H2 ⟨V,r,T,S2,x2,hW⟩;show(V,r,T,_,S2,y0 m r T hW,λz w3 M3 x3 r3 y3=>?_);cases z with
    | false=>rw[nc Bf9] at y3 |-;show q1 t0 w3 r M3 (x2.trans x3) r3 (S2.env.ext x3) y3
    | true=>
     rw[ng rfl] at y3 |-;have x0:∀l y j B,Ext w3 y->RS y B->REnv y j l->(∃m',m'<m/\W m' j B)->∃m',m'<m/\∃V r T,StOk p V r T l y.H/\Ext w V/\W m' r T:=
      λl y j B A D O zz=>by let(m',l',z'):=zz;show(m',l',y,j,B,(rfl,(S2.ext.trans x3).trans A,D,O),(x2.trans x3).trans A,z')
     show(λl H'=>∃m',m'<m/\∃V r T,StOk p V r T l H'/\Ext w V/\W m' r T,λl H' z=>z,?_);show N7 (S2.next x3 r3) y3 x0 (λv y d B A D z0 z'=>q2 v y d B ((x2.trans x3).trans A) D z0 z') (λl y j B A D O z'=>q1 l y j B ((x2.trans x3).trans A) D O z') x0
   | cons _ _=>left
  | _=>left
 | .raise g es,k,Z,p,X,C,G,h=>by let(x,np,ls,cp,E,rfl,hs):=Cp h;erw[Bz9,beq_iff_eq,decide_eq_true_eq] at hs;let(((((K,I),L),F),h5),h6):=hs;show Et G K I L F h5 h6 (Xl c es k Z p X ls G h6).1
 | .tryN hh f es g s,k,Z,p,X,C,G,h=>by let(bs,x,np,s0,ss,hp,E,rfl,hs):=Za8 h;erw[Bz9,beq_iff_eq] at hs;let(((((K,I),L),F),h7),h8):=hs;show Z80 G K I L F h7 h8 (W0 c s)
theorem W0(c:Cfg):∀s:Ss,Zg5 c s
 | .nil,k,Z,m,X,n,G,h=>by
  cases n with
  | nil=>show PSs.imp Zd7 λR t H zz=>?_;let(w,d,M,F,S,q,o,_):=zz;have:=o t w d M (Ext.refl w) S.rs S.env q;rwa[S.heap] at this
  | cons _ _=>left
 | .cons s r,k,Z,m,X,n,G,h=>by
  cases n with
  | nil=>left
  | cons x B=>change (_&&_)=true at h;erw[Bz9] at h;show PSs.imp (Z20 (Yh4 c s k Z m X x G h.1) (W0 c r k Z m X B G h.2)) λR t H zz=>?_;let(w,d,M,F,S,q,o,y,v,u):=zz;show N7 S q ?_ y v u;intro A I p J f C E D;show N7 (rfl,S.ext.trans f,C,E) D (λb g a l e i j z=>o b g a l (f.trans e) i j z) (y.ext f) (λb g a l e i j z=>v b g a l (f.trans e) i j z) (λb g a l e i j z=>u b g a l (f.trans e) i j z)
end
theorem FnOk.cx{w:Ul}{K:Ae}{k:Nat}{c:FuncData}{sp:Sp}(F:FnOk P w K mg base CX0 k f c ps sp):FnOk P w K mg base CX k f c ps sp:=
 (F.len,λA a s H b g d Q E l m n i j=>Kw (F.run A a s H b g d Q E l m n i j) λr p h=>by
  cases r with
  | error e=>show Dq h
  | ok o=>cases o<;>show h)
structure Prg(P:Uk)(w:Ul)(K:Ae)(mg:Str->Option Uh)(base:Um)(c:Cfg)(FN GN BN:LS)(lv:Nat):Prop where
 hK:c.K=K
 fns:∀(f:Nat) (x:Str) (sp:DSp),FN[f]?=some x->c.Γ[f]?=some sp->∃(kk:Nat) (f:Uj) (fd:FuncData) (ps:LS) (ds:LW) (dvs:LV) (dD:LD) (sp0:DSp),FnOk P w K mg base (CX1 P w) kk f fd ps (spF K sp0)/\kk<=lv/\mg x=↑f/\Hm K (.ref f)=true/\
  Yo K fd ps ds/\Vals dvs ds/\(∀w:Vw,w.K=K->RDs w dD dvs)/\∀as M Q Z,sp as M Q Z->sp0 (as++dD) M Q Z
 flen:FN.length=c.Γ.length
 glb:∀(g:Nat) (x:Str) (d:D),GN[g]?=some x->c.G[g]?=some d->∃v u,mg x=some u/\RelV v u/\∀w:Vw,w.K=K->RD w d v
 blt:∀x,x∈BN->mg x=none
def start0(N:LS)(a:LD):DEnv:=a.map some++Hn (N.length - a.length) none
def Fl{w:Vw}{a:LD}(r:RDs w a vs):REnv w (start0 N a) (L2.start N vs):=by
 show(by unfold start0 L2.start;simp[r.length],λi d e=>?_);ext e start0;ext L2.start;by_cases b:i<a.length
 .rw[De ↥b,Ch] at e;rw[De (by rw[Ai,r.length];show b),Ch];cases c:a[i]? with
  | none=>rw[c] at e;cases e
  | some j=>
   rw[c] at e;have h:j=d:=by simpa using e
   subst h;let(v,g,f):=r.get c;show(v,by rw[g];rfl,f)
 .rw[Dg ↥b] at e;have:=Ab.mp e;simp at this
section
variable{P:Uk}{w:Ul}{K:Ae}{mg:Str->Option Uh}{base:Um}{c:Cfg}{FN GN BN:LS}{lv:Nat}{x qual:Str}{st:Stmt}{f:Uj}{fd:FuncData}{N ps:LS}
abbrev ck0(N:LS)(st:Stmt)(FN GN BN:LS):Ck:=(N,Z7 st,FN,GN,BN,true,true,true,[],true,[])
abbrev ck1(a:LQ)(N:LS)(st:Stmt)(FN GN BN:LS):Ck:=(N,Z7 st,FN,GN,BN,true,true,true,a,true,[])
def fn0(g:Prg P w K mg base c FN GN BN lv)(F:Fun K x qual st f fd)(S:FnScope N ps (Z7 st)){body:Ss}(J:Tc (ck0 N st FN GN BN) body (Y1 st)=true){sp:DSp}(D:∀b M Q Z,sp b M Q Z->b.length=ps.length)
  (L:∀b M Q Z,sp b M Q Z->tss c noX body {nx:=λ_ M=>Q .non M,rt:=Q} (start0 N b) M):FnOk P w K mg base (CX1 P w) (lv+1) f fd ps (spF K sp):=by
 show FnOk.cx (F.ok S (λB H Q E h=>?_) λt A e s H B Q E y h=>?_)
 .let(w,b,M,u,Z,_,_,_,r,h,_):=h;rw[r.length];show D _ _ _ _ h
 let(j,b,M,u,Z,p,rfl,R,r,h,a,W):=h;have G:Good c (ck0 N st FN GN BN) noX j (cxOf CX0 P w K mg base N qual (Z7 st) f t A e s j.H E).nox:=
  {hK:=g.hK.symm
   wK:=p.trans g.hK.symm
   N:=rfl
   nd:=S.nd
   sc:=rfl
   calm:=λ_=>rfl
   units:=y.units
   fns:=λ_ f x sp T O=>by let(C,f,fd,ps,b,q,U,n,F,I,h):=g.fns f x sp T O;show(C,f,fd,ps,b,q,U,n,F,y.mono I,h)
   flen:=g.flen
   glb:=g.glb
   blt:=g.blt
   exc:=(E0,λ_ _ _ _ _ _ _ h=>by
    let(_,_,_,_,_,_,_,_,_,_,_,_,_,_,_,h):=h;show h.elim,λV X Y h=>by
    let(_,_,_,_,_,_,_,_,_,_,_,_,_,h):=h;show h.elim)
   stk:=λ_=>(rfl,rfl)
   rai:=λ_ h=>absurd h Bf9
   po:=λ_=>PassesOwn.never
   fnc:=λ_ _=>rfl
   fno:=λ_ h=>by cases h}
 show(_,W0 c body _ _ j _ _ G J,j,start0 N b,M,{nx:=λ_ M=>u .non M,rt:=u},(rfl,Ext.refl j,R,Fl r),L _ _ _ _ h,?_,a,?_,?_)
 .show λi m d v l o z k=>a .non m .non v l o (Zq.mpr rfl) k
 .show λi m d v l o z k=>k.elim
 .show λi m d v l o z k=>k.elim
def PrgR(P:Uk)(w:Ul)(K:Ae)(mg:Str->Option Uh)(base:Um)(c:Cfg)(b:LQ)(lv:Nat):Prop:=∀g:Nat,b.contains g=true->∀C:Uj,c.G[g]?=some (.cls C)->∃(a:Nat) (f:Uj) (fd:FuncData),ExcMk K C f/\FnOk P w K mg base CX0 a f fd ["self","row"] (Om K)/\a+1<=lv/\
 Yo K fd ["self","row"] [.none]/\Yo K fd ["self","row"] []/\ExcSet K C "row"
def fn1(i:Prg P w K mg base c FN GN BN lv){p:LQ}(Rr:PrgR P w K mg base c p lv)(F:Fun K x qual st f fd)(S:FnScope N ps (Z7 st)){body:Ss}(Y:Tc (ck1 p N st FN GN BN) body (Y1 st)=true){sp:DSp}(V:∀b M Q Z,sp b M Q Z->b.length=ps.length)
  (hb:∀b M Q Z,sp b M Q Z->tss c Z body {nx:=λ_ M=>Q .non M,rt:=Q} (start0 N b) M):FnOk P w K mg base (CX1 P w) (lv+1) f fd ps (spF K sp):=by
 show Ya9 F S (λT H Q E h=>?_) λD A e s H T Q E u h=>?_
 .let(w,b,M,I,Z,_,_,_,r,h,_):=h;rw[r.length];show V _ _ _ _ h
 let(k,b,M,I,Z,v,rfl,R,r,h,a,L):=h;have G:Good c (ck1 p N st FN GN BN) Z k (cxOf (CX1 P w) P w K mg base N qual (Z7 st) f D A e s k.H E):=
  {hK:=i.hK.symm
   wK:=v.trans i.hK.symm
   N:=rfl
   nd:=S.nd
   sc:=rfl
   calm:=λ_=>rfl
   units:=u.units
   fns:=λ_ f x sp z y=>by let(t,f,fd,ps,b,B,dD,o,F,W,h):=i.fns f x sp z y;show(t,f,fd,ps,b,B,dD,o,F,u.mono W,h)
   flen:=i.flen
   glb:=i.glb
   blt:=i.blt
   exc:=(E,Yt3 G8,L)
   stk:=λ_=>(rfl,rfl)
   rai:=λg U=>((E,G8,L),λC X=>by
    let(t,f,fd,z,y,h3,h4,h5,h6):=Rr g U C X;show(t,f,fd,z,y,u.mono h3,h4,h5,h6))
   po:=λ_=>PassesOwn.leaving
   fnc:=λ_ _=>rfl
   fno:=λ_ h=>by cases h}
 show(_,W0 c body _ _ k _ _ G Y,k,start0 N b,M,{nx:=λ_ M=>I .non M,rt:=I},(rfl,Ext.refl k,R,Fl r),hb _ _ _ _ h,?_,a,?_,?_)
 .show λj n d J m q O l=>a .non n .non J m q (Zq.mpr rfl) l
 .show λj n d J m q O l=>l.elim
 .show λj n d J m q O l=>l.elim
end
def Zn2:DSp:=λb M Q _=>∃a:List Int,b=[.ref 0]/\M=[.frz (a.map .int)]/\a.length<=63/\(∀i∈a,Bits bigN i)/\∀c,Q (.bl true) c
def Z36(w:Vw):∀a:List Int,RDs w (a.map .int) (a.map V.int)
 | []=>RDs.nil w
 | _::r=>RDs.cons (Z9.mpr rfl) (Z36 w r)
def Zd6{l:PySem.W.OpenLaw}{k:Nat}{q:Uk}{loose:LS}{XP:(Str->Option Uh)->Um->Prop}{YP:Ul->Um->Prop}{d:DefRec}{K:Params->Ae}{x:Str}{c0 T:Uj}(S:l.most=some 63)(B:d.params.defaults=[])(R:Room k callerA)
  (hY:∀(w:Ul) (h:Um),YP w h->(K w.params).In h) (C:∀(w:Ul) (h:Um),YP w h->h.get? T=some (PySem.W.tabObj #[]))
  (Q:∀(w:Ul) (h:Um),(K w.params).In h->PySem.W.tabIn (K w.params) "chosen_head"=some #v[c0,T]/\PySem.W.noTabs (K w.params)=true/\PySem.W.codeHdIn (K w.params) c0 T=true)
  (F:∀(w:Ul) (mg:Str->Option Uh) (y:Uj) (h:Um),(K w.params).In h->h.Ns mainGlobals mg->mg d.name=↑y->
   ∃E:FuncData,(∀(s:Ui) (u:Uh),BindsTo s E ([u],[]) [#v[x,u]])/\∀base:Um,(K w.params).In base->base.Ns mainGlobals mg->Bs (K w.params) mg base->FnOk l.prog w (K w.params) mg base (CX1 l.prog w) k y E [x] (spF (K w.params) Zn2)):
  PySem.W.WalkO q loose XP YP l.row.toRowW d [] (λf vs=>PySem.call f vs):=by
 show E3 S B λw J I mg mb y o pm cd z0 a vs r G Y A p m c n X=>?_;have z:=hY w _ Y;let(O,N,M):=Q w _ z;let(E,Z,D):=F w mg y _ z G.T.g A;show Zi1 z G.T.g G.T.b G.T.builtins G.T.nolimit X G.T.bmain O N (PySem.W.codeHd_of_K z M) (C w _ Y) p m (ni c 'd') R D Z (λH hS L=>?_) λH e s' h=>?_
 .have D:SqF (K w.params) H a (r.map V.int):=hS;show((K w.params,H,λ_=>a,1),[.ref 0],[.frz (r.map .int)],λd _=>d= .bl true,noX,rfl,rfl,(rfl,λi j ci cj ei ej mi mj _=>?_,λi c' e=>?_,L),RDs.cons (Ze.mpr (Nat.one_pos,rfl)) (RDs.nil _),(r,rfl,rfl,c,n,λ_=>rfl),λv w' d M' _ _ P e=>?_,λy0 dd H' h=>?_)
  .have t:=(Ab.mp ei).1;have h2:=(Ab.mp ej).1;simp at t h2;lia
  .have t:=(Ab.mp e).1;have U:i=0:=by simp at t;show t
   subst U;simp at e;subst e;show(_,D,Z36 _ r)
  .subst e;show Xn.mp P
  .let(_,_,_,_,_,_,_,_,_,_,_,_,_,h):=h;show h.elim
 .let(_,_,_,_,_,_,_,_,_,_,_,_,_,_,_,h):=h;show h.elim
def bot:DSp:=λ_ _ _ _=>False
def Ent(K:Ae)(mg:Str->Option Uh)(x:Str):Prop:=∃(f:Uj) (b:FuncData) (a:LS),mg x=↑f/\Hm K (.ref f)=true/\Yo K b a []
section
variable{P:Uk}{w:Ul}{K:Ae}{mg:Str->Option Uh}{base:Um}{Γ:List DSp}{G:LD}{FN GN BN:LS}{lv:Nat}
def Prg.zero(n:∀x∈FN,Ent K mg x)(k:FN.length=Γ.length)(m:∀sp∈Γ,sp=bot)(l:∀(g:Nat) (x:Str) (d:D),GN[g]?=some x->G[g]?=some d->∃v u,mg x=some u/\RelV v u/\∀w:Vw,w.K=K->RD w d v)(o:∀x∈BN,mg x=none):
  Prg P w K mg base (K,Γ,G) FN GN BN 0 where
 hK:=rfl
 fns:=λf x sp q p=>by
  let(t,r,i,B,z,y):=n x (Am q);have j:sp=bot:=m sp (Am p);subst j;have c:∀a H Q E,¬spF K bot a H Q E:=λa H Q E zz=>by let(_,_,_,_,_,_,_,_,_,h,_):=zz;show h
  show(0,t,r,i,[],[],[],bot,(λa H Q E h=>absurd h (c a H Q E),λA b s H e C a Q E _ _ _ _ h=>absurd h (c a H Q E)),na _,B,z,y,.nil,λw _=>RDs.nil w,λ_ _ _ _ h=>h.elim)
 flen:=k
 glb:=l
 blt:=o
def Prg.add(i:Prg P w K mg base (K,Γ,G) FN GN BN lv)(n:Nat){x:Str}{sp:DSp}{d c:Nat}(p:FN[n]?=some x)(F:FnOk P w K mg base (CX1 P w) d f g ps (spF K sp))(u:d<=c)(t:lv<=c)(q:mg x=↑f)(k:Hm K (.ref f)=true)(s:Yo K g ps []):
  Prg P w K mg base (K,Γ.set n sp,G) FN GN BN c where
 hK:=rfl
 fns:=λm y b l a=>by
  by_cases e:n=m
  .subst e;rw[p] at l;cases l;have r:n<Γ.length:=by rw[<-i.flen];show(Ab.mp p).1
   have a:(Γ.set n sp)[n]?=some b:=a;rw[Ds r] at a;cases a;show(d,f,g,ps,[],[],[],sp,F,u,q,k,s,.nil,λw _=>RDs.nil w,λA M Q Z h=>by rw[Hd];show h)
  .have a:(Γ.set n sp)[m]?=some b:=a;rw[Dk e] at a;let(d,f,g,ps,v,o,z,j,F,k,h):=i.fns m y b l a;show(d,f,g,ps,v,o,z,j,F,ni k t,h)
 flen:=by rw[i.flen];simp
 glb:=i.glb
 blt:=i.blt
end
def Z4{a:Nat}(h:readL M a=some xs):readL (M++N) a=some xs:=by
 unfold readL at *;have b:a<M.length:=by
  cases e:M[a]? with
  | none=>rw[e] at h;cases h
  | some c=>show(Ab.mp e).1
 rw[De b];show h
def Ql{a:Nat}(h:Zh M a=some xs):Zh (M++N) a=some xs:=by
 unfold Zh at *;have b:a<M.length:=by
  cases e:M[a]? with
  | none=>rw[e] at h;cases h
  | some c=>show(Ab.mp e).1
 rw[De b];show h
def Qx{a:Nat}(h:Y7 M a=some xs):Y7 (M++N) a=some xs:=by
 unfold Y7 at *;have b:a<M.length:=by
  cases e:M[a]? with
  | none=>rw[e] at h;cases h
  | some c=>show(Ab.mp e).1
 rw[De b];show h
def Zh0(M:Z2)(c:Cell)(N:Z2):(M++c::N)[M.length]?=some c:=by simp
def Zm6(M N:Z2)(k:Nat):(M++N)[M.length+k]?=N[k]?:=by rw[Dg 'o'];congr 1;lia
def Zk(M:Z2)(xs:LD)(N:Z2):readL (M++ .lst xs::N) M.length=some xs:=by ext readL;rw[Zh0]
def Yk(M:Z2)(xs:LD)(N:Z2):Zh (M++ .lst xs::N) M.length=some xs:=by ext Zh;rw[Zh0]
def Zd0(M:Z2)(xs:KQ9)(N:Z2):Y7 (M++ .dct xs::N) M.length=some xs:=by ext Y7;rw[Zh0]
def Yt(M N:Z2)(k:Nat):readL (M++N) (M.length+k)=readL N k:=by ext readL;rw[Zm6]
def V8(M N:Z2)(k:Nat):Zh (M++N) (M.length+k)=Zh N k:=by ext Zh;rw[Zm6]
def Sf(M:Z2)(c d:Cell)(N:Z2):(M++c::N).set M.length d=M++d::N:=by rw[Df _ _ (na _)];simp
def S5(M N:Z2)(k:Nat)(d:Cell):(M++N).set (M.length+k) d=M++N.set k d:=by rw[Df _ _ 'o'];congr 2;lia
def Zf{n:Nat}(h:Zh M n=some xs):readL M n=some xs:=Yf4 h
def Gs{lo:Int}{n i:Nat}(h:i<n):(Wg lo n)[i]?=some (.int (lo+i)):=by ext Wg;rw[Ch,Ho h];rfl
def Xh(lo:Int)(n:Nat):(Wg lo n).length=n:=by ext Wg;simp
def Y5{own:Own}{xs:LD}{g:LQ}{body:DS}{R:DEnds}{a:DEnv}{M:Z2}(I:Nat->DEnv->Z2->Prop)(h0:I 0 a M)(m:∀i a M,i<=xs.length->I i a M->Jr own xs M)
  (step:∀(i:Nat) (d:D) a M (C:DEnv->Z2->Prop),xs[i]?=some d->I i a M->(∀b c,I (i+1) b c->C b c)->tgD g d a λf=>body {nx:=C,rt:=R.rt,bk:=R.nx,ct:=C} f M)
  (l:∀a M,I xs.length a M->R.nx a M):forD own xs g body xs R a M:=by
 have k:∀(j:Nat) a M,j<=xs.length->I (xs.length - j) a M->forD own xs g body (xs.drop (xs.length - j)) R a M:=by
  intro j;induction j with
  | zero=>intro a M _ h;rw[Nat.sub_zero] at h |-;rw[List.drop_length];show(m _ a M (na _) h,l a M h)
  | succ j p=>intro a M q h;have n:xs.length - (j+1)<xs.length:='o';have e:xs.length - (j+1)+1=xs.length - j:='o';rw[Hx n];show(m _ a M 'o' h,step _ _ a M _ (Aa n) h λb c o=>?_);rw[e] at o |-;show p b c 'o' o
 have:=k xs.length a M (na _) (by rw[Nat.sub_self];show h0);rwa[Nat.sub_self] at this
def Z32{lo:Int}{n:Nat}{g:LQ}{body:DS}{R:DEnds}{a:DEnv}{M:Z2}(I:Nat->DEnv->Z2->Prop)(h0:I 0 a M)
  (step:∀(i:Nat) a M (C:DEnv->Z2->Prop),i<n->I i a M->(∀b k,I (i+1) b k->C b k)->tgD g (.int (lo+i)) a λc=>body {nx:=C,rt:=R.rt,bk:=R.nx,ct:=C} c M)
  (f:∀a M,I n a M->R.nx a M):forD .no (Wg lo n) g body (Wg lo n) R a M:=by
 show Y5 I h0 (λ_ _ _ _ _=>trivial) (λi d a M C e l m=>?_) (λa M h=>f a M (by rw[Xh] at h;show h));have j:i<n:=by have:=(Ab.mp e).1;rwa[Xh] at this
 rw[Gs j] at e;cases e;show step i a M C j l m
def Zj{own:Own}{z:Nat}{a:DEnv}(I:Nat->DEnv->Z2->Prop)(h0:I 0 a M)(p:∀i a M,i<=xs.length->I i a M->Jr own xs M)
  (step:∀(i:Nat) (d:D) a M (C:DEnv->Z2->Prop),xs[i]?=some d->I i a M->(∀c g,I (i+1) c g->C c g)->tgD l d a λf=>cd f M λb s=>if b=true then
   m f s λy g=>∃k,Zh g z=some k/\k.length<sizeLine/\C f (g.set z (.lst (k++[y]))) else C f s)
  (o:∀a M,I xs.length a M->Q M):Ry own xs l cd m z xs a M Q:=by
 have n:∀(j:Nat) a M,j<=xs.length->I (xs.length - j) a M->Ry own xs l cd m z (xs.drop (xs.length - j)) a M Q:=by
  intro j;induction j with
  | zero=>intro a M _ h;rw[Nat.sub_zero] at h |-;rw[List.drop_length];show(p _ a M (na _) h,o a M h)
  | succ j t=>intro a M u h;have q:xs.length - (j+1)<xs.length:='o';have e:xs.length - (j+1)+1=xs.length - j:='o';rw[Hx q];show(p _ a M 'o' h,step _ _ a M (λc g=>Ry own xs l cd m z (xs.drop (xs.length - (j+1)+1)) c g Q) (Aa q) h λc g r=>?_);rw[e] at r |-;show t c g 'o' r
 have:=n xs.length a M (na _) (by rw[Nat.sub_self];show h0);rwa[Nat.sub_self] at this
def mulR{i j:Int}(b:-(2 ^ 64)<j)(a:j<2 ^ 64):IntMulOk i j:=CMul.ok (.inr (b,a))
def mulL{i j:Int}(b:-(2 ^ 64)<i)(a:i<2 ^ 64):IntMulOk i j:=CMul.ok (.inl (b,a))
def Zz{i j:Int}(c:0<j)(b:j<2 ^ 64):Z60 i j:=by show('o',?_);have a:j.natAbs<2 ^ 64:='o';show Nat.lt_trans (Z85 a 'd') 'd'
def Z0{n:Nat}(h:n<=16000000):n<=sizeLine:=by rw[Mw];lia
def Z1{n:Nat}(h:n<=16000000):n<sizeLine:=by rw[Mw];lia
section
variable{M:Z2}{Q:DK}{B:Bool->Prop}{i j:Int}{a b:Str}{p q:Bool}{xs ys:LD}{n m:Nat}{K:Ae}
def op_add_i:opD .add (.int i) (.int j) M Q=Q (.int (i+j)) M:=rfl
def op_add_s:opD .add (.str a) (.str b) M Q=(a.length+b.length<=sizeLine/\Q (.str (a++b)) M):=rfl
def op_add_t:opD .add (.tup xs) (.tup ys) M Q=(xs≠[]/\xs.length+ys.length<=sizeLine/\Q (.tup (xs++ys)) M):=rfl
def op_add_l:opD .add (.ref n) (.ref m) M Q=∃xs ys,Zh M n=some xs/\Zh M m=some ys/\xs.length+ys.length<=sizeLine/\Q (.ref M.length) (M++[.lst (xs++ys)]):=rfl
def op_sub_i:opD .sub (.int i) (.int j) M Q=Q (.int (i - j)) M:=rfl
def op_mul_i:opD .mul (.int i) (.int j) M Q=(IntMulOk i j/\Q (.int (i * j)) M):=rfl
def op_mul_l:opD .mul (.ref n) (.int i) M Q=∃xs,Zh M n=some xs/\0<=i/\i<2 ^ 62/\xs.length * i.toNat<=sizeLine/\Q (.ref M.length) (M++[.lst (Hn i.toNat xs).flatten]):=rfl
def op_fdiv_i:opD .fdiv (.int i) (.int j) M Q=(Z60 i j/\Q (.int (qdiv i j)) M):=rfl
def op_mod_i:opD .mod (.int i) (.int j) M Q=(j≠0/\Q (.int (qmod i j)) M):=rfl
def op_pow_i:opD .pow (.int i) (.int j) M Q=(CPow i j/\Q (.int (i ^ j.toNat)) M):=rfl
def cm_lt_i:cmD M .lt (.int i) (.int j) B=B (decide (i<j)):=rfl
def cm_le_i:cmD M .le (.int i) (.int j) B=B (decide (i<=j)):=rfl
def cm_gt_i:cmD M .gt (.int i) (.int j) B=B (decide (j<i)):=rfl
def cm_ge_i:cmD M .ge (.int i) (.int j) B=B (decide (j<=i)):=rfl
def cm_eq{x y:D}:cmD M .eq x y B=eqD M x y B:=rfl
def cm_ne{x y:D}:cmD M .ne x y B=eqD M x y λb=>B (!b):=rfl
def cm_in{x y:D}:cmD M .isin x y B=inQ M x y B:=rfl
def cm_notin{x y:D}:cmD M .notin x y B=inQ M x y λb=>B (!b):=rfl
def cm_is_n:cmD M .is .non .non B=B true:=rfl
def cm_is_i:cmD M .is (.int i) .non B=B false:=rfl
def cm_is_s:cmD M .is (.str a) .non B=B false:=rfl
def cm_is_b:cmD M .is (.bl p) .non B=B false:=rfl
def cm_is_t:cmD M .is (.tup xs) .non B=B false:=rfl
def cm_is_r:cmD M .is (.ref n) .non B=B false:=rfl
def cm_isnot_n:cmD M .isnot .non .non B=B false:=rfl
def cm_isnot_i:cmD M .isnot (.int i) .non B=B true:=rfl
def cm_isnot_s:cmD M .isnot (.str a) .non B=B true:=rfl
def cm_isnot_b:cmD M .isnot (.bl p) .non B=B true:=rfl
def cm_isnot_t:cmD M .isnot (.tup xs) .non B=B true:=rfl
def cm_isnot_r:cmD M .isnot (.ref n) .non B=B true:=rfl
def eq_i:eqD M (.int i) (.int j) B=B (decide (i=j)):=rfl
def eq_s:eqD M (.str a) (.str b) B=B (decide (a=b)):=rfl
def eq_b:eqD M (.bl p) (.bl q) B=B (decide (p=q)):=rfl
def eq_nn:eqD M .non .non B=B true:=rfl
def eq_is:eqD M (.int i) (.str b) B=B false:=rfl
def eq_si:eqD M (.str b) (.int i) B=B false:=rfl
def tru_b:truD M (.bl p) B=B p:=rfl
def tru_i:truD M (.int i) B=B (i !=0):=rfl
def tru_n:truD M .non B=B false:=rfl
def tru_t:truD M (.tup xs) B=B (!xs.isEmpty):=rfl
def ix_t:ixD M (.tup xs) (.int i) F=∃d,atI xs i=some d/\F d:=rfl
def ix_g:ixD M (.gtup xs) (.int i) F=∃d,atI xs i=some d/\F d:=rfl
def ix_s:ixD M (.str a) (.int i) F=(a.length<=sizeLine/\∃c,atI a.cps.toList i=some c/\F (.str ⟨#[c]⟩)):=rfl
def ix_l{k:Nat}(h:readL M n=some xs){d:D}(c:xs[k]?=some d)(e:F d):ixD M (.ref n) (.int k) F:= .inl (xs,k,d,rfl,h,Vx c,e)
def Yc3(h:readL M n=some xs){d:D}(c:atI xs i=some d)(e:F d):ixD M (.ref n) (.int i) F:= .inl (xs,i,d,rfl,h,c,e)
def ix_d{k:D}(h:Y7 M n=some kvs)(c:keyD k=some y){d:D}(e:valD kvs y=some d)(f:F d):ixD M (.ref n) k F:= .inr (kvs,y,d,Y92 h,c,e,f)
def ix_f{k:D}(h:M[n]?=some (.fdc kvs))(c:keyD k=some y){d:D}(e:valD kvs y=some d)(f:F d):ixD M (.ref n) k F:= .inr (kvs,y,d,by ext Cb;rw[h],c,e,f)
def sl_s{lo hi:Option Int}:slD (.str a) lo hi M Q=(a.length<=sizeLine/\Q (.str (Txt.slice a lo hi)) M):=rfl
def sl_t{lo hi:Option Int}:slD (.tup xs) lo hi M Q=(¬(HT.sIx xs.length 0 lo=0/\HT.sIx xs.length xs.length hi=xs.length)/\Q (.tup (cutD xs lo hi)) M):=rfl
def sl_l{lo hi:Option Int}:slD (.ref n) lo hi M Q=∃xs,readL M n=some xs/\Q (.ref M.length) (M++[.lst (cutD xs lo hi)]):=rfl
def tyNon:Ty->Bool:=λ_=>false
def tyBl:Ty->Bool
 | .bool=>true | .int=>true | _=>false
def tyInt:Ty->Bool
 | .int=>true | _=>false
def tyStr:Ty->Bool
 | .str=>true | _=>false
def tyTup:Ty->Bool
 | .tuple=>true | _=>false
def tyLst:Ty->Bool
 | .list=>true | _=>false
def tyDct:Ty->Bool
 | .dict=>true | _=>false
def Nj{d:D}{t:Ty}{s:String}{v:Bool}(o:∀e C u r,d≠ .exn e C u r)(g:tyD M d=some s)(f:Kk K (.type s) (.type (Yw t))=some v):isD K M d (.ty (Yw t)) B=B v:=by
 have:isD K M d (.ty (Yw t)) B=∃c b,tyD M d=some c/\Kk K (.type c) (.type (Yw t))=some b/\B b:=by cases d<;>first | rfl | show absurd rfl (o _ _ _ _)
 rw[this];apply propext;constructor
 .rintro⟨c,b,l,k,h⟩;rw[g] at l;cases l;rw[f] at k;cases k;show h
 .intro h;show(s,v,g,f,h)
def is_non{t:Ty}:isD K M .non (.ty (Yw t)) B=B (tyNon t):=Nj (λ_ _ _ _ h=>nomatch h) rfl (by cases t<;>rfl)
def is_bl{t:Ty}:isD K M (.bl p) (.ty (Yw t)) B=B (tyBl t):=Nj (λ_ _ _ _ h=>nomatch h) rfl (by cases t<;>rfl)
def is_int{t:Ty}:isD K M (.int i) (.ty (Yw t)) B=B (tyInt t):=Nj (λ_ _ _ _ h=>nomatch h) rfl (by cases t<;>rfl)
def is_str{t:Ty}:isD K M (.str a) (.ty (Yw t)) B=B (tyStr t):=Nj (λ_ _ _ _ h=>nomatch h) rfl (by cases t<;>rfl)
def is_tup{t:Ty}:isD K M (.tup xs) (.ty (Yw t)) B=B (tyTup t):=Nj (λ_ _ _ _ h=>nomatch h) rfl (by cases t<;>rfl)
def Z01{t:Ty}(h:Zh M n=some xs):isD K M (.ref n) (.ty (Yw t)) B=B (tyLst t):=Nj (s:="list") (λ_ _ _ _ h=>nomatch h) (by erw[tyD,Ju h]) (by cases t<;>rfl)
def Zm(h:readL M n=some xs)(c:Q (.int xs.length) M):bfD K .len [.ref n] M Q:= .inl (xs,h,c)
def bf_len_t:bfD K .len [.tup xs] M Q=Q (.int xs.length) M:=rfl
def bf_len_s:bfD K .len [.str a] M Q=(a.length<=sizeLine/\Q (.int a.length) M):=rfl
def bf_is{d c:D}:bfD K .isinst [d,c] M Q=isD K M d c λb=>Q (.bl b) M:=rfl
def bf_min:bfD K .min2 [.int i,.int j] M Q=Q (.int (if j<i then j else i)) M:=rfl
def bf_max:bfD K .max2 [.int i,.int j] M Q=Q (.int (if j >i then j else i)) M:=rfl
def bf_list{d:D}:bfD K .list1 [d] M Q=∃xs,B3 M d=some xs/\Q (.ref M.length) (M++[.lst xs]):=rfl
def Zg8:bfD K .tuple1 [.tup xs] M Q=Q (.tup xs) M:=rfl
def bf_tuple:bfD K .tuple1 [.ref n] M Q=∃xs,readL M n=some xs/\Q (.tup xs) M:=rfl
def bf_dict:bfD K .dict1 [.ref n] M Q=((∃xs,Y7 M n=some xs/\Q (.ref M.length) (M++[.dct xs]))\/(∃ps:KQ9,readL M n=some (Ys ps)/\ps.length<sizeLine/\Q (.ref M.length) (M++[.dct (Su ps)]))):=rfl
def at2_xy{x y:D}:at2 [x,y] F=F x y:=rfl
def onRef_r:Si (.ref n) F=F n:=rfl
def bf_sortedL:bfD K .sortedL [.ref n] M Q=∃c:List Int,readL M n=some (c.map .int)/\c.length<64/\∀d:List Int,d.Perm c->d.Pairwise (·<=·)->Q (.ref M.length) (M++[.lst (d.map .int)]):=rfl
def on_int:Gi (.int i) F=F i:=rfl
def ati0{c:Type}{x:c}{l:List c}:atI (x::l) 0=some x:=Vx (j:=0) rfl
def ati1{c:Type}{x y:c}{l:List c}:atI (x::y::l) 1=some y:=Vx (j:=1) rfl
def ati2{c:Type}{x y z:c}{l:List c}:atI (x::y::z::l) 2=some z:=Vx (j:=2) rfl
def ofS_inj{a b:String}:(Str.ofString a=Str.ofString b)=(a=b):=by
 apply propext;constructor
 .intro h;rw[Str.ofString_eq_toList,Str.ofString_eq_toList] at h;have h1:=congrArg (λs:Str=>s.cps.toList) h;simp only at h1;have inj:∀{l m:List Char},l.map Char.toNat=m.map Char.toNat->l=m:=by
   intro l;induction l with
   | nil=>intro m h;cases m<;>simp_all
   | cons c l ih=>
    intro m h;cases m with
    | nil=>simp at h
    | cons e m=>rw[Az,Az,List.cons.injEq] at h;rw[ih h.2,Char.toNat_inj.mp h.1]
  show String.toList_inj.mp (inj h1)
 .intro h;rw[h]
def mt_append_r{d:D}:mtD .append (.ref n) [d] M Q=∃xs,Zh M n=some xs/\xs.length<sizeLine/\Q .non (M.set n (.lst (xs++[d]))):=rfl
def mt_get2_r{k z:D}:mtD .get2 (.ref n) [k,z] M Q=∃kvs y,Y7 M n=some kvs/\keyD k=some y/\Q ((valD kvs y).getD z) M:=rfl
def mt_pop_r:mtD .pop0 (.ref n) [] M Q=∃xs d,Zh M n=some xs/\xs[xs.length - 1]?=some d/\Q d (M.set n (.lst xs.dropLast)):=rfl
def mt_clear_r:mtD .clear (.ref n) [] M Q=∃xs,Zh M n=some xs/\Q .non (M.set n (.lst [])):=rfl
def mt_reverse_r:mtD .reverse (.ref n) [] M Q=∃xs,Zh M n=some xs/\Q .non (M.set n (.lst xs.reverse)):=rfl
def mt_index_r{d:D}:mtD .index1 (.ref n) [d] M Q=∃xs k z,readL M n=some xs/\Zv d=true/\xs.all Zv=true/\xs[k]?=some z/\eqF z d=true/\(∀(j:Nat) u,j<k->xs[j]?=some u->eqF u d=false)/\Q (.int k) M:=rfl
def mt_extend_r:mtD .extend (.ref n) [.ref m] M Q=∃xs ys,Zh M n=some xs/\Zh M m=some ys/\xs.length+ys.length<=sizeLine/\Q .non (M.set n (.lst (xs++ys))):=rfl
def mk_index:mtK .index1 (.ref n) M=((readL M n).isSome=true):=rfl
def mk_extend:mtK .extend (.ref n) M=((readL M n).isSome=true):=rfl
def mk_append:mtK .append (.ref n) M=((readL M n).isSome=true):=rfl
def mk_pop:mtK .pop0 (.ref n) M=((readL M n).isSome=true):=rfl
def mk_clear:mtK .clear (.ref n) M=((readL M n).isSome=true):=rfl
def mk_reverse:mtK .reverse (.ref n) M=((readL M n).isSome=true):=rfl
def mk_get2:mtK .get2 (.ref n) M=((Y7 M n).isSome=true):=rfl
def tg_one{k:Nat}{d:D}{c:DEnv}:tgD [k] d c F=F (c.set k (some d)):=by cases d<;>rfl
def tg_two{k l:Nat}{d e:D}{c:DEnv}:tgD [k,l] (.tup [d,e]) c F=F ((c.set k (some d)).set l (some e)):=by show([d,e].length=[k,l].length/\F _)=_;simp
def it_r:itD M (.ref n) R=∃xs,readL M n=some xs/\R (.lst n) xs:=rfl
def it_t:itD M (.tup xs) R=R .no xs:=rfl
def it_g:itD M (.gtup xs) R=R .no xs:=rfl
def key_i:keyD (.int i)=some (.inl i):=rfl
def key_s:keyD (.str a)=some (.inr a):=rfl
def in_ss:inQ M (.str a) (.str b) B=B (!(Ml b a 0 b.length 1).isEmpty):=rfl
end
def Z8{a:Type}{o:Option a}{x:a}(h:o=some x):o.isSome=true:=by rw[h];rfl
abbrev vs4:LW:=[.type "ValueError",.type "Exception",.type "BaseException",.type "object"]
def mro4{K:Ae}{d q:Str}{c:LS}{a:LW}{b:Option Bool}{o:Option Uj}{n m k j i:Option Uh}
  (l:K.lookup C=some (excClassObj d q C N f (.ref J::vs4) true c a g b o n m k j i h)):∃cd,Ua K C=some cd/\cd.hasDict=true/\cd.mro=[.ref C,.ref J]++vs4:=by
 have e:Ua K C=some {name:=d,bases:=f,mro:= .ref C::(.ref J::vs4),ns:=N,qualname:=q,hasDict:=true,slotNames:=c,subclasses:=a,abstract:=g,collection:=b,hasDel:=false}:=by ext Ua;rw[l]
 show(_,e,rfl,rfl)
def Zs4{K:Ae}{d q:Str}{c:LS}{a:LW}{n:Bool}{b:Option Bool}{k:Option Uj}{j i h g e:Option Uh}
  (l:K.lookup C=some (excClassObj d q C N m (.ref J::vs4) true c a n b k j i h g e "ValueError.__new__")) (hi:Iy K (.ref C) "__init__"=some (↑f)) (p:PySem.W.isFn K (.ref f)=true) (o:Hm K (.ref C)=true):ExcMk K C f where
 cls:=(d,q,N,m,_,true,c,a,n,b,k,j,i,h,g,e,l,rfl,rfl,rfl,rfl)
 init:=hi
 fn:=p
 kp:=o
def Ze1{K:Ae}{d:LS}{a:LW}{w:Bool}{b:Option Bool}{s:Option Uj}{k j i h g:Option Uh}
  (l:K.lookup C=some (excClassObj f q C N u (.ref J::vs4) true d a w b s k j i h g e)) (n:Iy K (.ref C) "row"=some none) (m:Iy K (.ref C) "__setattr__"=some (some (.builtin "object.__setattr__"))):ExcSet K C "row" where
 cls:=by
  let(t,r,p,o):=mro4 l;show(t,[.ref C,.ref J],r,p,o,λv c=>?_);erw[Ak,Hf,or_false] at c;rcases c with rfl|rfl
  .exact(_,rfl)
  .exact(_,rfl)
 no:=n
 set:=m
def Zu8(st:Stmt):Bool:=match Y1 st with
 | [.Assign [.Attribute (.Name a _) b _] (.Name d _) _]=>a=="self"&&b=="row"&&d=="row"
 | _=>false
set_option tactic.hygienic true in
def Z63{st:Stmt}(h:Zu8 st=true):∃p1 p2 p3 p4,Y1 st=[.Assign [.Attribute (.Name "self" p1) "row" p2] (.Name "row" p3) p4]:=by
 ext h Zu8;split at h
 .rename_i a p1 b p2 d p3 p4 e;erw[Bz9,beq_iff_eq] at h;let((rfl,rfl),rfl):=h;show(_,_,_,_,e)
 .cases h
def Yf8{P:Uk}{w:Ul}{K:Ae}{mg:Str->Option Uh}{base:Um}{st:Stmt}{f:Uj}{name qual:Str}{n m b l a o v:Uh}{p od:Option Uj}{d:Array (Option Uh)}
  (x:K.lookup f=some (v,od,.func (Kv name qual (Xj st) (Y1 st) (Z7 st) n m b l p a o),d)) (k:Mb K a qual=true) (S:FnScope ["self","row"] ["self","row"] (Z7 st)) (z:Zu8 st=true)
  (D:(Z7 st).names.lookup ("self":Str)=some .local) (B:(Z7 st).names.lookup ("row":Str)=some .local):
  FnOk P w K mg base CX0 1 f (Kv name qual (Xj st) (Y1 st) (Z7 st) n m b l p a o) ["self","row"] (Om K):=by
 show Zz9 x k S (λq H Q E zz=>by let(e,C,y,h,_):=zz;rw[h];rfl) λA c s H q Q E N g=>?_;let(e,C,y,rfl,u,t,r):=g;let(M,L,J,I,F):=Z63 z;rw[F];show(_,Z20 (Yp7 (Bz (i:=0) rfl (.inl D)) (Bz (i:=1) rfl (.inl B)) rfl) Zd7,?_);show(y,rfl,.ref e,rfl,e,C,rfl,u,t,λG j=>r G j)
def Prg.up{w:Ul}{K:Ae}{c:Cfg}{j i k:LS}{g a:Nat}(b:Prg P w K mg base c j i k g)(h:g<=a):Prg P w K mg base c j i k a where
 hK:=b.hK
 fns:=λm y l t s=>by let(o,f,q,n,u,e,v,d,F,p,r):=b.fns m y l t s;show(o,f,q,n,u,e,v,d,F,ni p h,r)
 flen:=b.flen
 glb:=b.glb
 blt:=b.blt
def PrgR.one{w:Ul}{K:Ae}{c:Cfg}{b n:Nat}{a:FuncData}(h:c.G[n]?=some (.cls B))(p:ExcMk K B f)(o:FnOk P w K mg base CX0 1 f a ["self","row"] (Om K))(m:2<=b)(l:Yo K a ["self","row"] [.none])(k:Yo K a ["self","row"] [])(j:ExcSet K B "row"):
  PrgR P w K mg base c [n] b:=λg i C d=>by
 have e:g=n:=by simpa using i
 subst e;rw[h] at d;cases d;show(1,f,a,p,o,m,l,k,j)
def Rest(c:Cfg)(X:DX)(r:Ss)(R:DEnds)(a:DEnv)(M:Z2):Prop:=tss c X r R a M
def tss_nil{c:Cfg}{a:DEnv}:tss c X .nil R a M=R.nx a M:=rfl
def tss_cons{c:Cfg}{s:S}{b:DEnv}:tss c X (.cons s r) R b M=ts c X s {R with nx:=λa d=>Rest c X r R a d} b M:=rfl
def Za{c:Cfg}{X:DX}{r:Ss}{R:DEnds}{a:DEnv}{M:Z2}(h:tss c X r R a M):Rest c X r R a M:=h
def Y15{a:Type}{P:List a->Prop}(h:P [])(l:List a)(e:l.length=0):P l:=by
 cases l with
 | nil=>show h
 | cons _ _=>cases e
def Zd3{b:Type}{n:Nat}{P:List b->Prop}(h:∀a l,l.length=n->P (a::l))(l:List b)(e:l.length=n+1):P l:=by
 cases l with
 | nil=>cases e
 | cons a r=>show h a r (Nat.succ.inj e)
def Y20{b:Type}{P:List b->Prop}(h:∀a,P [a]):∀l:List b,l.length=1->P l:=Zd3 λa=>Y15 (h a)
def Yp5{c:Type}{P:List c->Prop}(h:∀a b,P [a,b]):∀l:List c,l.length=2->P l:=Zd3 λa=>Y20 (P:=λl=>P (a::l)) (h a)
def Zo6{a:Type}{P:a->Prop}:∀x∈([]:List a),P x:=λ_ h=>absurd h Hf
def all_cons{b:Type}{P:b->Prop}{a:b}{l:List b}(h:P a)(t:∀x∈l,P x):∀x∈a::l,P x:=λx c=>(Ak.mp c).elim (λe=>e ▸ h) (t x)
def Zx4{K:Ae}{b:FuncData}{n:Nat}(h:∀s:Ui,K.In s.heap->∀us:LW,us.length=n->BindsTo s b (us,[]) (ps.zip (us++[])))(e:ps.length=n):Yo K b ps []:=λs us c a=>h s c us (by rw[Hd,e] at a;show a)
def Y50{K:Ae}{b:FuncData}{d:Uh}{n:Nat}(h:∀s:Ui,K.In s.heap->∀us:LW,us.length=n->BindsTo s b (us,[]) (ps.zip (us++[d])))(e:ps.length=n+1):Yo K b ps [d]:=λs us c a=>h s c us (by rw[Ag,e] at a;show Nat.succ.inj a)
def Je:List (Str×NameKind):=[#v["goals",.cell],#v["together",.cell],#v["doors",.cell],#v["min",.globalImplicit]]
abbrev chN:LS:=["goals","together","doors"]
def Kq(M a:Z2):Prop:=∀(i:Nat) c,M[i]?=some c->a[i]?=some c
def Zi8(c:DSp):DSp:=λo M Q _=>∃(g d:D) (t:Nat) (b:List Int) (f:Int->Nat->Prop),o=[g,.ref t,d]/\readL M t=some (b.map .int)/\0<b.length/\
 (∀a,Kq M a->∀x∈b,c [g,.ref t,d,.int x] a (λv n=>(∃r h,v= .ref r/\readL n r=some h/\f x h.length)/\Kq a n) noX)/\∀(i:Nat) m,b[i]?=some m->(∃l,f m l/\∀(k:Nat) j,b[k]?=some j->∃e,f j e/\l<=e/\(k<i->l<e))->∀a,Kq M a->Q (.int m) a
def Kq.readL{M a:Z2}{n:Nat}(h:Kq M a)(e:U.readL M n=some xs):U.readL a n=some xs:=by
 unfold U.readL at e |-;cases q:M[n]? with
 | none=>rw[q] at e;cases e
 | some c=>rw[q] at e;rw[h n c q];show e
def RS.over{w:Vw}(R:RS w M)(d:∀b o,Tb o=false->w.H b=some o->H2 b=some o)(f:∀b o,w.H b=some o->Imm o=true->H2 b=some o)(a:Z98 w.K H2):Ext w {w with H:=H2}/\RS {w with H:=H2} M:=by have x:Ext w {w with H:=H2}:=(rfl,na _,λ_ _=>rfl,f);show(x,R.len,R.inj,λi c e=>?_,a);show(R.cell i c e).stay x λh=>?_;let(o,g):=(R.cell i c e).some h;change H2 (w.μ i)=w.H (w.μ i);rw[g];show d _ _ (O4 (R.cell i c e) h g) g
def Yq3(c:cellOf env "goals"=(pure c1:Sem Uj))(b:cellOf env "together"=(pure c2:Sem Uj))(a:cellOf env "doors"=(pure c3:Sem Uj)):closureFor Zy env=(pure (Pl c1 c2 c3):Sem (List (Str×Uj))):=by ext closureFor;simp[Zy,c,b,a]
def fnC{P:Uk}{w:Ul}{K:Ae}{mg:Str->Option Uh}{base:Um}{c:Cfg}{FN GN BN:LS}{lv n:Nat}{st:Stmt}{f c0 T:Uj}{fd:FuncData}{p1 p2 p3 p4 p5 p6 p7 p8 p9 pos q1 q2 q3 q4 q5:Pos}{I:DSp}
  (Pr:Prg P w K mg base c FN GN BN lv) (KX:K.In base) (G0:base.Ns mainGlobals mg) (B:Bs K mg base) (ht:PySem.W.tabIn K "chosen_head"=some #v[c0,T]) (u0:mg "chosen_head"=↑f) (F:Fun K "chosen_head" "chosen_head" st f fd)
  (w0:Y1 st=[.Return (some (.Call (.Name "min" q1) [.Name "together" q2] [{arg:=some "key",value:= .Lambda (Vu p1) (Td p2 p3 p4 p5 p6 p7 p8 p9) Zy pos,pos:=q3}] q4)) q5]) (Y:(Z7 st).names=Je)
  (S:FnScope chN chN (Z7 st)) (z0:("min":Str)∈BN) (y0:("len":Str)∈BN) (hn:FN[n]?=some ("come_round":Str)) (hg:c.Γ[n]?=some I):FnOk P w K mg base (CX1 P w) (lv+3) f fd chN (spF K (Zi8 I)):=by
 let(oc,od,dV,kV,n1,pm,an,m0,ct,v1,rfl,lk,q0):=F.ex;have L:m0= .ref c0:=PySem.W.law_code KX G0 ht u0 (KX _ _ lk) rfl;subst L;show FnOk.cx (Zz9 (CX:=CX0) lk q0 S (λvs H Q E h=>?_) λA j s H vs Q E hr h=>?_)
 .let(w,ds,M,QD,Z,_,_,_,r,h,_):=h;let(g,d,t,ns,KL,rfl,_):=h;rw[r.length];rfl
 let(G,ds,M,QD,Z,y,rfl,R,r,h,a,xk):=h;let(g,d,t,ns,KL,rfl,e1,v0,hC,q):=h;let(kk,fc,t1,y1,o1,s1,n0,z1,Fc,u1,t0,s0,p0,r0,o0,V):=Pr.fns n "come_round" I hn hg;have J:∀(x:Str) k,Je.lookup x=some k->(envOfC "chosen_head" (Z7 st) s⁻¹ f (.ref c0)).kindOf x=some k:=λx k e=>by show(Z7 st).names.lookup x=some k;rw[Y];show e
 have u:(envOfC "chosen_head" (Z7 st) s⁻¹ f (.ref c0)).cells=cellsFrom (s⁻¹+1) Je []:=by change cellsFrom (s⁻¹+1) (Z7 st).names []=_;rw[Y]
 have ce:∀(x:Str) cc,(cellsFrom (s⁻¹+1) Je []).lookup x=some cc->cellOf (envOfC "chosen_head" (Z7 st) s⁻¹ f (.ref c0)) x=(pure cc:Sem Uj):=λx cc e=>by ext cellOf;rw[u,e]
 have hx:∀x0 H s e s',CX1 P w x0 H s E0 e s'->False:=λ_ _ _ _ _ h=>by let(_,_,_,_,_,_,_,_,_,_,_,_,_,_,_,h):=h;show h.elim
 have pm:=Y97 (X:=(cxOf CX0 P w K mg base chN "chosen_head" (Z7 st) f (.ref c0) A j s G.H E).nox) (c0:=c0) (T:=T) (c1:=s⁻¹+1) (c2:=s⁻¹+2) (c3:=s⁻¹+3) (p1:=p1) (p2:=p2) (p3:=p3) (p4:=p4) (p5:=p5) (p6:=p6) (p7:=p7) (p8:=p8) (p9:=p9) (pos:=pos) (q1:=q1) (q2:=q2) (q3:=q3) (q4:=q4)
  B rfl rfl ht (Yq3 (ce _ _ rfl) (ce _ _ rfl) (ce _ _ rfl)) (by rw[show(cxOf CX0 P w K mg base chN "chosen_head" (Z7 st) f (.ref c0) A j s G.H E).nox.env.cells=_ from u];rfl) (by rw[show(cxOf CX0 P w K mg base chN "chosen_head" (Z7 st) f (.ref c0) A j s G.H E).nox.env.cells=_ from u];rfl) (by rw[show(cxOf CX0 P w K mg base chN "chosen_head" (Z7 st) f (.ref c0) A j s G.H E).nox.env.cells=_ from u];rfl)
  rfl (hr.mono 'o') (J "min" _ rfl) (Pr.blt _ z0) (Pr.blt _ y0) rfl rfl rfl (.inr (.inl (J "goals" _ rfl))) (.inr (.inl (J "together" _ rfl))) (.inr (.inl (J "doors" _ rfl))) (J "goals" _ rfl) (J "together" _ rfl) (J "doors" _ rfl) Fc t0 s0 p0 r0 hx
 have D:=Ye1 (Y19 (pos:=q5) pm);rw[<-w0] at D;show(_,D.nox,?_);ext r RDs;let(vg,r1,rfl,rg,r):=r;ext r RDs;let(vt,r2,rfl,rt,r):=r;ext r RDs;let(vd,r3,rfl,rd,r):=r;ext r RDs;subst r;let(tl,rfl):=Ze.mp rt;let(ps,hP,tr):=R.tab c0 T (by rw[y];show ht);show(vg,vd,G.μ t,ns,ps,λO=>∃p C,p.H=O/\Ext G p/\RS p C/\Kq M C,KL,rfl,rfl,rfl,v0,hP,tr,λO k1 k2=>?_,λO hj=>?_,λO hj x hx=>?_,λi m hm hl O hj=>?_)
 .have nT:∀b o,G.H b=some o->(∀qs,o≠ .tbl qs)->b≠T:=λb o e h z=>by rw[z,hP] at e;cases e;show h _ rfl
  let(x4,r4):=RS.over (H2:=O) R (λb o t e=>k1 b o (nT b o e λqs z=>by rw[z] at t;cases t) e) (λb o e t=>k1 b o (nT b o e λqs z=>by rw[z] at t;cases t) e) λc' P' e=>by rw[y,ht] at e;cases e;show k2
  show(_,M,rfl,x4,r4,λi c e=>e)
 .let(p,C,rfl,l,R1,k):=hj;let(_,us,U,l2,_):=R1.listL (k.readL e1);cases Qy l2;rw[l.K,y,l.μ t tl] at U;show U
 .let(p,C,rfl,l,R1,k):=hj;have N:p.K=K:=l.K.trans y;show(p,[g,.ref t,d,.int x]++n0,C,_,noX,N,rfl,R1,?_,V _ _ _ _ (hC C k x hx),λv w2 dv M2 x2 R2 rv qv=>?_,λu dd H' h=>?_)
  .exact(RDs.cons (rg.ext l) (RDs.cons (Ze.mpr (nh tl l.n,by rw[l.μ t tl])) (RDs.cons (rd.ext l) (RDs.cons (Z9.mpr rfl) (RDs.nil p))))).append (o0 p N)
  .let((rr,ys,rfl,e2,kl),k2):=qv;let(_,rfl):=Ze.mp rv;let(_,us,U,l2,_):=R2.listL e2;show((_,us,rfl,?_,by rw[l2.length];show kl),(w2,M2,rfl,l.trans x2,R2,λi c e=>k2 i c (k i c e)),λb φ e=>x2.imm _ _ e rfl);rw[x2.K,N] at U;show U
  .let(_,_,_,_,_,_,_,_,_,_,_,_,_,h):=h;show h.elim
 .let(p,C,rfl,l,R1,k):=hj;show a _ p _ C l R1 (Z9.mpr rfl) (q i m hm hl C k)
end U
namespace GT
inductive Av (g:Nat->LQ) (a:Nat):Nat->Prop
 | zero:a≠0->Av g a 0
 | step {x y:Nat}:Av g a x->y∈g x->y≠a->Av g a y
structure Num(g:Nat->LQ)(n:Nat):Prop where
 pos:0<n
 cl:∀x,x<n->∀y∈g x,y<n
 up:∀k,k<n->k≠0->∃p,p<k/\k∈g p
def Av.ne{g:Nat->LQ}{a x:Nat}(h:Av g a x):x≠a:=by
 cases h with
 | zero h=>show λe=>h e.symm
 | step _ _ h=>show h
def Av.lt{g:Nat->LQ}{n a x:Nat}(N:Num g n)(h:Av g a x):x<n:=by
 induction h with
 | zero _=>show N.pos
 | step _ c _ b=>show N.cl _ b _ c
def Y00{g:Nat->LQ}{k:Nat}:¬Av g 0 k:=by
 intro h;have:∀x,Av g 0 x->False:=by
  intro x h;induction h with
  | zero h=>show h rfl
  | step _ _ _ a=>show a
 show this k h
structure Must(g:Nat->LQ)(k m:Nat):Prop where
 ne:m≠k
 dom:¬Av g m k
 last:∀d,d≠k->¬Av g d k->d<=m
structure Wk(g:Nat->LQ)(n:Nat)(B:LQ)(T:List (Nat×Nat))(F:LQ):Prop where
 bn:B.Nodup
 bl:∀x∈B,x<n
 z:0∈B
 mem:∀x,x∈B↔(∃s,#v[x,s]∈T)\/x∈F
 nd:(T.map (·.1)++F).Nodup
 first:∀p,T[0]?=some p->p.1=0
 chain:∀(i:Nat) p q,T[i]?=some p->T[i+1]?=some q->q.1∈g p.1
 steps:∀a s,#v[a,s]∈T->s<=(g a).length/\∀j y,j<s->(g a)[j]?=some y->y∈B
 fin:∀d∈F,∀y∈g d,y∈B
 par:∀(i:Nat) x,F[i]?=some x->x≠0->∃p,x∈g p/\p∈B/\p∉F.take (i+1)
def wkM(n:Nat)(B:LQ)(T:List (Nat×Nat)):Nat:=3 * (n - (Ug B))+(T.map λp=>3 - p.2).sum
def V6{a:Type}{T:List a}{p q:a}{i:Nat}(h:(T++[p])[i]?=some q):T[i]?=some q\/(i=Ug T/\q=p):=by
 by_cases b:i<Ug T
 .rw[De b] at h;show .inl h
 .rw[Dg 'o'] at h;have c:=(Ab.mp h).1;simp at c;have e:i - (Ug T)=0:='o';rw[e] at h;simp at h;show .inr ('o',h.symm)
def Zr5:∀{n:Nat} {B:LQ},B.Nodup->(∀x∈B,x<n)->(Ug B)<=n:=by intro n B c b;have:Ug B<=(Aj n).length:=Ay c (λx a=>Hj.mpr (b x a));simpa using this
def Zd5{n a s:Nat}{B:LQ}{T:List (Nat×Nat)}(b:s<=2):wkM n B T<wkM n B (T++[#v[a,s]]):=by ext wkM;erw[As,Kf,Az,Dh,Lf,Mf];lia
def Zt3{n a s:Nat}{B:LQ}{T:List (Nat×Nat)}(b:s<2):wkM n B (T++[#v[a,s+1]])<wkM n B (T++[#v[a,s]]):=by ext wkM;erw[As,Kf,Az,Dh,Lf,Mf];lia
def Zz5{n a s y:Nat}{B:LQ}{T:List (Nat×Nat)}(b:s<2)(c:Ug B<n):wkM n (B++[y]) (T++[#v[a,s+1],#v[y,0]])<wkM n B (T++[#v[a,s]]):=by ext wkM;erw[As,Kf,Az,Dh,Lf,Mf,Ag,Dy,Ku];lia
def Yj8{O:LQ}(a:O.Nodup){k x:Nat}(h:O[k]?=some x):O.idxOf x=k:=by let(c,b):=Ab.mp h;rw[<-b];show List.Nodup.idxOf_getElem a k c
structure Ord(g:Nat->LQ)(n:Nat)(O:LQ):Prop where
 nd:O.Nodup
 lt:∀x∈O,x<n
 z:O[0]?=some 0
 cl:∀x∈O,∀y∈g x,y∈O
 up:∀(k:Nat) x,O[k]?=some x->k≠0->∃(j:Nat) (p:Nat),j<k/\O[j]?=some p/\x∈g p
def X3(g:Nat->LQ)(O:LQ)(k:Nat):LQ:=match O[k]? with
 | some x=>(g x).map λy=>O.idxOf y
 | none=>[]
def Ord.num{g:Nat->LQ}{n:Nat}{O:LQ}(o:Ord g n O):Num (X3 g O) (Ug O) where
 pos:=(Ab.mp o.z).1
 cl:=by intro k a y b;ext b X3;rw[Aa a] at b;let(u,c,rfl):=Ar.mp b;show Dn (o.cl _ (He a) u c)
 up:=by intro k a h;let(j,p,f,e,d):=o.up k _ (Aa a) h;show(j,f,?_);ext X3;rw[e];show Ar.mpr (_,d,Yj8 o.nd (Aa a))
def Ord.le{g:Nat->LQ}{n:Nat}{O:LQ}(o:Ord g n O):Ug O<=n:=Zr5 o.nd o.lt
structure Fd(g:Nat->LQ)(n a:Nat)(L:LQ)(t:Nat):Prop where
 nd:L.Nodup
 z:L[0]?=some 0
 av:∀x∈L,Av g a x
 done:∀(i:Nat) x,i<t->L[i]?=some x->∀y∈g x,y=a\/y∈L
 le:t<=Ug L
end GT
namespace ND
structure St where
 b:LQ
 s:List (Nat×LQ)
 d:LQ
def stp(g:Nat->LQ):St->St
 | (b,[],d)=>(b,[],d)
 | (b,#v[x,[]]::s,d)=>(b,s,d++[x])
 | (b,#v[x,t::r]::s,d)=>if t∈b then(b,#v[x,r]::s,d) else(b++[t],#v[t,g t]::#v[x,r]::s,d)
def itr(g:Nat->LQ):Nat->St->St
 | 0,s=>s
 | k+1,s=>stp g (itr g k s)
def C3{g:Nat->LQ}(j:Nat)(s:St):∀k,itr g (k+j) s=itr g k (itr g j s)
 | 0=>by rw[Nat.zero_add];rfl
 | k+1=>by rw[Nat.add_right_comm];change stp g (itr g (k+j) s)=stp g (itr g k (itr g j s));rw[C3 j s k]
def Y94{g:Nat->LQ}{s:St}(h:s.s=[]):stp g s=s:=by let(b,s,d):=s;cases h;rfl
def Em{g:Nat->LQ}{s:St}(h:s.s=[]):∀k,itr g k s=s
 | 0=>rfl
 | k+1=>by change stp g (itr g k s)=s;rw[Em h k,Y94 h]
def Ends(g:Nat->LQ)(x:Nat)(d:LQ):Prop:=∃k b,itr g k ([x],[#v[x,g x]],[])=(b,[],d)
def Ends.uniq{g:Nat->LQ}{x:Nat}{d e:LQ}(h1:Ends g x d)(h2:Ends g x e):d=e:=by
 let(k,b,h1):=h1;let(j,c,h2):=h2;have a1:itr g (j+k) ([x],[#v[x,g x]],[])=(b,[],d):=by rw[C3,h1,Em rfl]
 have a2:itr g (k+j) ([x],[#v[x,g x]],[])=(c,[],e):=by rw[C3,h2,Em rfl]
 rw[Nat.add_comm,a1] at a2;show congrArg St.d a2
def mp(π:Nat->Nat)(s:St):St:=(s.b.map π,s.s.map λp=>#v[π p.1,p.2.map π],s.d.map π)
structure In(S:Nat->Prop)(z:St):Prop where
 b:∀x∈z.b,S x
 s:∀p∈z.s,S p.1/\∀t∈p.2,S t
 d:∀x∈z.d,S x
def In.stp{g:Nat->LQ}{S:Nat->Prop}(cl:∀x,S x->∀t∈g x,S t){s:St}(h:In S s):In S (stp g s):=by
 let(b,s,d):=s;cases s with
 | nil=>show h
 | cons p s=>
  let(x,r):=p;have hx:=h.s #v[x,r] Aw;cases r with
  | nil=>show(h.b,λp hp=>h.s p (An _ hp),λy hy=>(Ap.mp hy).elim (h.d y) λz=>by rw[Af] at z;subst z;show hx.1)
  | cons t r=>
   change In S (if t∈b then _ else _);split
   .refine(h.b,λp hp=>?_,h.d);rcases Ak.mp hp with rfl|hp
    .exact(hx.1,λu hu=>hx.2 u (An _ hu))
    .show h.s p (An _ hp)
   .have ht:=hx.2 t Aw;show(λy hy=>(Ap.mp hy).elim (h.b y) λz=>by rw[Af] at z;subst z;show ht,λp hp=>?_,h.d);rcases Ak.mp hp with rfl|hp
    .exact(ht,cl t ht)
    .rcases Ak.mp hp with rfl|hp
     .exact(hx.1,λu hu=>hx.2 u (An _ hu))
     .show h.s p (An _ hp)
def Yq5{g g':Nat->LQ}{S:Nat->Prop}{π:Nat->Nat}(inj:∀x y,S x->S y->π x=π y->x=y)(hg:∀x,S x->g' (π x)=(g x).map π){s:St}(h:In S s):stp g' (mp π s)=mp π (stp g s):=by
 let(b,s,d):=s;cases s with
 | nil=>rfl
 | cons p s=>
  let(x,r):=p;have hx:=h.s #v[x,r] Aw;cases r with
  | nil=>change St.mk (b.map π) _ (d.map π++[π x])=St.mk (b.map π) _ ((d++[x]).map π);rw[As];rfl
  | cons t r=>
   have ht:=hx.2 t Aw;have e:π t∈b.map π↔t∈b:=by
    constructor
    .intro z;let(y,hy,e):=Ar.mp z;rw[<-inj y t (h.b y hy) ht e];show hy
    .show λz=>Ar.mpr (t,z,rfl)
   show(if π t∈b.map π then _ else _)=mp π (if t∈b then _ else _);by_cases hb:t∈b
   .rw[ng (e.mpr hb),ng hb];rfl
   .rw[nc (λz=>hb (e.mp z)),nc hb];change St.mk (b.map π++[π t]) (#v[π t,g' (π t)]::_) (d.map π)=St.mk ((b++[t]).map π) (#v[π t,(g t).map π]::_) (d.map π);rw[As,hg t ht];rfl
def Y14{g g':Nat->LQ}{S:Nat->Prop}{π:Nat->Nat}(cl:∀x,S x->∀t∈g x,S t)(inj:∀x y,S x->S y->π x=π y->x=y)(hg:∀x,S x->g' (π x)=(g x).map π){s:St}(h:In S s):∀k,itr g' k (mp π s)=mp π (itr g k s)/\In S (itr g k s)
 | 0=>(rfl,h)
 | k+1=>by let(h1,h2):=Y14 cl inj hg h k;show(by change stp g' (itr g' k (mp π s))=mp π (stp g (itr g k s));rw[h1,Yq5 inj hg h2],h2.stp cl)
def Ends.map{g g':Nat->LQ}{S:Nat->Prop}{π:Nat->Nat}{x:Nat}{d:LQ}(cl:∀x,S x->∀t∈g x,S t)(inj:∀x y,S x->S y->π x=π y->x=y)(hg:∀x,S x->g' (π x)=(g x).map π)(hx:S x)(h:Ends g x d):Ends g' (π x) (d.map π):=by let(k,b,h):=h;have i0:In S ([x],[#v[x,g x]],[]):=(λy hy=>by rw[Af] at hy;subst hy;show hx,λp hp=>by rw[Af] at hp;subst hp;show(hx,cl x hx),λy hy=>by simp at hy);have:=(Y14 cl inj hg i0 k).1;rw[h] at this;show(k,b.map π,?_);rw[hg x hx];show this
structure Ok(g:Nat->LQ)(x:Nat)(s:St):Prop where
 nb:s.b.Nodup
 nd:(s.s.map (·.1)++s.d).Nodup
 eq:∀y,y∈s.b↔y∈s.s.map (·.1)\/y∈s.d
 cl:∀y∈s.d,∀t∈g y,t∈s.b
 op:∀p∈s.s,(∀t∈p.2,t∈g p.1)/\∀t∈g p.1,t∈p.2\/t∈s.b
 bot:s.s.getLast?.map (·.1)=some x\/(s.s=[]/\s.d.getLast?=some x)
def Ok.begin(g:Nat->LQ)(x:Nat):Ok g x ([x],[#v[x,g x]],[]) where
 nb:=by simp
 nd:=by simp
 eq:=by simp
 cl:=by simp
 op:=by intro p hp;rw[Af] at hp;subst hp;show(λt h=>h,λt h=> .inl h)
 bot:= .inl rfl
def Ok.stp{g:Nat->LQ}{x:Nat}{s:St}(h:Ok g x s):Ok g x (stp g s):=by
 let(b,s,d):=s;cases s with
 | nil=>show h
 | cons p s=>
  let(y,r):=p;let(h1,h2,h3,h4,h5,h6):=h;erw[Az] at h2 h3 h4 h5 h6;cases r with
  | nil=>
   change Ok g x (b,s,d++[y]);show(h1,?_,λz=>?_,λz hz t ht=>?_,λp hp=>h5 p (An _ hp),?_)
   .show(s.map (·.1)++(d++[y])).Nodup;rw[<-Db];have h2':(y::(s.map (·.1)++d)).Nodup:=h2;rw[Hq] at h2';show Dt.mpr (h2'.2,by simp,λa ha c hc=>by rw[Af] at hc;subst hc;show λe=>h2'.1 (e ▸ ha))
   .change z∈b↔z∈s.map (·.1)\/z∈d++[y];rw[h3 z];erw[Ak,Ap,Hf,or_false];constructor
    .rintro((h|h)|h)
     .show .inr (.inr h)
     .show .inl h
     .show .inr (.inl h)
    .rintro(h|h|h)
     .show .inl (.inr h)
     .show .inr h
     .show .inl (.inl h)
   .rcases Ap.mp hz with hz|hz
    .show h4 z hz t ht
    .rw[Af] at hz;subst hz;show((h5 #v[z,[]] Aw).2 t ht).resolve_left 's'
   .cases s with
    | nil=>
     show .inr (rfl,?_);rcases h6 with h6|⟨h6,_⟩
     .show(d++[y]).getLast?=some x;rw[List.getLast?_append];simpa using h6
     .cases h6
    | cons q s=>
     show .inl ?_;rcases h6 with h6|⟨h6,_⟩
     .show(q::s).getLast?.map (·.1)=some x;rw[Mm] at h6;show h6
     .cases h6
  | cons t r=>
   have hy:=h5 #v[y,t::r] Aw;change Ok g x (if t∈b then(b,#v[y,r]::s,d) else(b++[t],#v[t,g t]::#v[y,r]::s,d));split
   .rename_i hb;show(h1,h2,h3,h4,λp hp=>?_,?_)
    .rcases Ak.mp hp with rfl|hp
     .refine(λu hu=>hy.1 u (An _ hu),λu hu=>?_);rcases hy.2 u hu with z|z
      .rcases Ak.mp z with rfl|z
       .show .inr hb
       .show .inl z
      .show .inr z
     .show h5 p (An _ hp)
    .rcases h6 with h6|⟨h6,_⟩
     .refine .inl ?_;cases s with
      | nil=>show h6
      | cons q s=>rw[Mm] at h6 |-;show h6
     .cases h6
   .rename_i hb;have hn:¬(t=y\/t∈s.map (·.1))/\t∉d:=by have:=λz=>hb ((h3 t).mpr z);erw[Ak] at this;show(λz=>this (.inl z),λz=>this (.inr z))
    show(?_,?_,λz=>?_,λz hz u hu=>Ax _ (h4 z hz u hu),λp hp=>?_,?_)
    .show Dt.mpr (h1,by simp,λa ha c hc=>by rw[Af] at hc;subst hc;show λe=>hb (e ▸ ha))
    .show(t::(y::s.map (·.1)++d)).Nodup;rw[Hq];show(λz=>?_,h2);rcases Ap.mp z with z|z
     .show hn.1 (Ak.mp z)
     .show hn.2 z
    .change z∈b++[t]↔z∈t::y::s.map (·.1)\/z∈d;rw[Ap,h3 z,Af,Ak (a:=z) (b:=t)];constructor
     .rintro((h|h)|h)
      .show .inl (.inr h)
      .show .inr h
      .show .inl (.inl h)
     .rintro((h|h)|h)
      .show .inr h
      .show .inl (.inl h)
      .show .inl (.inr h)
    .rcases Ak.mp hp with rfl|hp
     .exact(λu hu=>hu,λu hu=> .inl hu)
     .rcases Ak.mp hp with rfl|hp
      .refine(λu hu=>hy.1 u (An _ hu),λu hu=>?_);rcases hy.2 u hu with z|z
       .rcases Ak.mp z with rfl|z
        .show .inr (Dm _ 's')
        .show .inl z
       .show .inr (Ax _ z)
      .let(a1,a2):=h5 p (An _ hp);show(a1,λu hu=>(a2 u hu).imp id (Ax _))
    .rcases h6 with h6|⟨h6,_⟩
     .refine .inl ?_;rw[Mm];cases s with
      | nil=>show h6
      | cons q s=>rw[Mm] at h6 |-;show h6
     .cases h6
def Ok.itr{g:Nat->LQ}{x:Nat}{s:St}(h:Ok g x s):∀k,Ok g x (itr g k s)
 | 0=>h
 | k+1=>(Ok.itr h k).stp
def Ends.facts{g:Nat->LQ}{x:Nat}{d:LQ}(h:Ends g x d):d.Nodup/\(∀y∈d,∀t∈g y,t∈d)/\d.getLast?=some x:=by
 let(k,b,h):=h;have o:=(Ok.begin g x).itr k;rw[h] at o;have e:∀y,y∈b↔y∈d:=λy=>by have:=o.eq y;simpa using this
 show(↥o.nd,λy hy t ht=>(e t).mp (o.cl y hy t ht),?_);rcases o.bot with z|⟨_,z⟩
 .cases z
 .show z
def Zu(N:Nat)(l:LQ)(nd:l.Nodup)(h:∀x∈l,x<N):Ug l<=N:=by have:Ug l<=(Aj N).length:=Ay nd (λx hx=>Hj.mpr (h x hx));simpa using this
def mea(N:Nat)(z:St):Nat:=3 * (N - z.b.length)+(z.s.map λp=>p.2.length+1).sum
def Yq{l:LQ}(nd:l.Nodup){i:Nat}(h:i<Ug l):l.idxOf l[i]=i:=nd.idxOf_getElem i h
def X3{g g':Nat->LQ}{x:Nat}{d:LQ}(h:Ends g x d)(hg:∀i (hi:i<d.reverse.length),g' i=(g d.reverse[i]).map d.reverse.idxOf):Ends g' 0 (Aj (Ug d)).reverse:=by
 let(nd,cl,last):=h.facts;have nr:d.reverse.Nodup:=by first | show List.pairwise_reverse.mpr (nd.imp λh=>Il h) | show nd.reverse
 have hxd:x∈d:=List.mem_of_getLast? last;have get:∀y∈d,∃(hy:d.reverse.idxOf y<d.reverse.length),d.reverse[d.reverse.idxOf y]=y:=λy hy=>
  (Dn (Dl.mpr hy),Ih _)
 have h0:d.reverse.idxOf x=0:=by
  have e:d.reverse.head?=some x:=by rw[List.head?_reverse];show last
  cases hr:d.reverse with
  | nil=>rw[hr] at e;cases e
  | cons a r=>rw[hr] at e;cases e;simp
 have key:=Ends.map (g':=g') (S:=(·∈d)) (π:=d.reverse.idxOf) cl
  (λa b ha hb e=>by
   let(p1,q1):=get a ha;let(p2,q2):=get b hb;rw[<-q1,<-q2];congr 1)
  (λy hy=>by
   let(p1,q1):=get y hy;rw[hg _ p1,q1]) hxd h
 rw[h0] at key;have e:d.map d.reverse.idxOf=(Aj (Ug d)).reverse:=by rw[<-Go (d.map _)];congr 1;rw[<-List.map_reverse];apply List.ext_getElem 's';intro i h1 h2;rw[List.getElem_map,List.getElem_range,Yq nr]
 rw[e] at key;show key
end ND
namespace ND
structure Pr(g:Nat->LQ)(x:Nat)(z:St):Prop where
 ch:∀(i:Nat) p q,z.s[i]?=some p->z.s[i+1]?=some q->p.1∈g q.1
 pa:∀(i:Nat) y,z.d[i]?=some y->y≠x->∃p,y∈g p/\p∈z.b/\p∉z.d.take (i+1)
def Pr.stp(o:Ok g x z)(h:Pr g x z):Pr g x (stp g z):=by
 let(b,s,d):=z;cases s with
 | nil=>show h
 | cons p r=>
  let(y,l):=p;cases l with
  | nil=>
   show(λi p q f c=>h.ch (i+1) p q f c,λi w a j=>?_);have a:(d++[y])[i]?=some w:=a;change ∃p,w∈g p/\p∈b/\p∉(d++[y]).take (i+1);by_cases e:i<Ug d
   .rw[De e] at a;rw[List.take_append_of_le_length 'o'];show h.pa i w a j
   .rw[Dg 'o'] at a;have A:i - (Ug d)=0:=by have:=(Ab.mp a).1;simp at this;lia
    rw[A] at a;have:=Hb a;subst this;have E:i=Ug d:='o';cases r with
    | nil=>
     rcases o.bot with z|⟨z,_⟩
     .show absurd (Hb z) j
     .cases z
    | cons q r=>
     have m:(y::q.1::(r.map (·.1)++d)).Nodup:=o.nd;let(v,u):=Hq.mp m;let(n,_):=Hq.mp u;show(q.1,h.ch 0 _ q rfl rfl,(o.eq q.1).mpr (.inl 's'),λz=>?_);rcases Ap.mp (List.mem_of_mem_take z) with z|z
     .show n (Dm _ z)
     .rw[Af] at z;show v (by simp[z])
  | cons t l=>
   by_cases e:t∈b
   .have k:ND.stp g (b,#v[y,t::l]::r,d)=(b,#v[y,l]::r,d):=ng e;rw[k];show(λi p q f c=>?_,h.pa);cases i with
    | zero=>cases f;show h.ch 0 #v[y,t::l] q rfl c
    | succ i=>show h.ch (i+1) p q f c
   .have k:ND.stp g (b,#v[y,t::l]::r,d)=(b++[t],#v[t,g t]::#v[y,l]::r,d):=nc e;rw[k];show(λi p q f c=>?_,λi w a j=>?_)
    .match i with
     | 0=>cases f;cases c;show(o.op #v[y,t::l] Aw).1 t Aw
     | 1=>cases f;show h.ch 0 #v[y,t::l] q rfl c
     |(i+2)=>show h.ch (i+1) p q f c
    .let(p,D,C,B):=h.pa i w a j;show(p,D,Ax _ C,B)
def Pr.itr:∀k,Pr g x (itr g k ([x],[#v[x,g x]],[]))
 | 0=>(λi p q b a=>by simp[ND.itr] at a,λi y h=>by simp[ND.itr] at h)
 | k+1=>Pr.stp ((Ok.begin g x).itr k) (Pr.itr k)
def Ends.ord(e:Ends g 0 F)(B:∀x∈F,x<n):GT.Ord g n F.reverse:=by
 let(l,J,a):=e.facts;let(k,b,I):=e;have r:=Pr.itr (g:=g) (x:=0) k;have s:=(Ok.begin g 0).itr k;rw[I] at r s;have m:∀p∈b,p∈F:=λp A=>((s.eq p).mp A).resolve_left 's';have t:F≠[]:=λz=>by rw[z] at a;cases a
 have h:0<Ug F:=List.length_pos_iff.mpr t;have z:F[Ug F - 1]?=some 0:=by rw[<-List.getLast?_eq_getElem?];show a
 have f:∀k,k<Ug F->F.reverse[k]?=F[Ug F - 1 - k]?:=λk c=>List.getElem?_reverse c;show((List.reverse_perm F).nodup_iff.mpr l,λx d=>B x (Dl.mp d),by rw[f 0 h];show z,λx d y w=>Dl.mpr (J x (Dl.mp d) y w),λk x c O=>?_);have o:k<Ug F:=by simpa using (Ab.mp c).1
 rw[f k o] at c;have d:x≠0:=by rintro rfl;let(N,M):=Ab.mp c;let(L,K):=Ab.mp z;have v:=Yq l N;have u:=Yq l L;rw[M] at v;rw[K] at u;lia
 let(p,H,G,E):=r.pa _ x c d;let(j,q):=Ke (m p G);have C:=(Ab.mp q).1;have D:Ug F - 1 - k+1<=j:=by apply Lg;intro e;show E (Am (i:=j) (by rw[List.getElem?_take_of_lt 'o'];show q))
 show(Ug F - 1 - j,p,'o',?_,H);rw[f _ 'o',show (Ug F) - 1 - (Ug F - 1 - j)=j by lia];show q
end ND
namespace BF
structure Ok(E:Nat->Nat->Prop)(b:Nat)(B:List (Nat×Option Nat)):Prop where
 hd:B[0]?=some #v[b,none]
 nd:(B.map (·.1)).Nodup
 up:∀(i g p:Nat),B[i]?=some #v[g,some p]->E p g/\∃(j:Nat) (o:Option Nat),j<i/\B[j]?=some #v[p,o]
 top:∀(i g:Nat),B[i]?=some #v[g,none]->i=0/\g=b
def keys(B:List (Nat×Option Nat)):LQ:=B.map (·.1)
inductive Rc (E:Nat->Nat->Prop) (b:Nat):Nat->Prop
 | here:Rc E b b
 | step {x y:Nat}:Rc E b x->E x y->Rc E b y
structure Way(E:Nat->Nat->Prop)(b l:Nat)(W:LQ):Prop where
 fst:W[0]?=some b
 lst:W[Ug W - 1]?=some l
 go:∀(i x y:Nat),W[i]?=some x->W[i+1]?=some y->E x y
 nd:W.Nodup
structure Bk(E:Nat->Nat->Prop)(b l:Nat)(B:List (Nat×Option Nat))(T:LQ)(c:Option Nat)(m:Nat):Prop where
 cur:(m=0/\c=none/\T[Ug T - 1]?=some b)\/∃(p:Nat) (o:Option Nat),0<m/\c=some p/\B[m - 1]?=some #v[p,o]/\((T=[]/\p=l)\/∃x,T[Ug T - 1]?=some x/\E p x)
 fst:T=[]\/T[0]?=some l
 go:∀(i x y:Nat),T[i]?=some x->T[i+1]?=some y->E y x
 nd:T.Nodup
 old:∀x∈T,∃(j:Nat) (o:Option Nat),m<=j/\B[j]?=some #v[x,o]
end BF
namespace DF
open ND
def Pre(O:LQ)(a b:Nat):Prop:=Li [a,b] O
inductive Pth (g:Nat->LQ) (O:LQ) (y:Nat):Nat->Prop
 | here:Pth g O y y
 | step {a b:Nat}:Pth g O y a->b∈g a->Pre O b a->Pth g O y b
def Pth.mono{O a:LQ}{y x:Nat}(h:Pth g O y x)(k:Li O a):Pth g a y x:=by
 induction h with
 | here=>show .here
 | step _ e p b=>show .step b e (p.trans k)
def row(s:St):LQ:=s.d++s.s.map (·.1)
def Chn(g:Nat->LQ):List (Nat×LQ)->Prop
 | []=>True
 | [_]=>True
 | p::q::r=>p.1∈g q.1/\Chn g (q::r)
def Chn.tail{p:Nat×LQ}(h:Chn g (p::r)):Chn g r:=by
 cases r with
 | nil=>trivial
 | cons q r=>show h.2
def Chn.head{x:Nat}{u v:LQ}(h:Chn g (#v[x,u]::r)):Chn g (#v[x,v]::r):=by
 cases r with
 | nil=>trivial
 | cons q r=>show(h.1,h.2)
def Chn.path:∀(p:Nat×LQ) (r:List (Nat×LQ)),Chn g (p::r)->Li ((p::r).map (·.1)) O->∀q∈p::r,Pth g O q.1 p.1
 | p,[],_,_,q,a=>by rw[Af] at a;subst a;show .here
 | p,c::r,h,d,q,a=>by
  rcases Ak.mp a with rfl|a
  .show .here
  .have b:Li ((c::r).map (·.1)) O:=(List.sublist_cons_self _ _).trans d;show .step (Chn.path c r h.2 b q a) h.1 (Li.trans ?_ d);erw[Az];show .cons_cons _ (.cons_cons _ (List.nil_sublist _))
structure I(g:Nat->LQ)(s:St):Prop where
 ex:∀x∈s.d,∀y∈g x,Pre (row s) y x\/Pth g (row s) y x
 op:∀p∈s.s,∀y∈g p.1,y∈p.2\/Pre (row s) y p.1\/Pth g (row s) y p.1
 ch:Chn g s.s
def I.begin(g:Nat->LQ)(x:Nat):I g ([x],[#v[x,g x]],[]) where
 ex:=λx h=>by simp at h
 op:=λp a y b=>by rw[Af] at a;subst a;show .inl b
 ch:=trivial
def I.stp{x:Nat}{s:St}(o:Ok g x s)(h:I g s):I g (stp g s):=by
 let(b,s,d):=s;cases s with
 | nil=>show h
 | cons p s=>
  let(y,r):=p;have f:=h.op #v[y,r] Aw;cases r with
  | nil=>
   change I g (b,s,d++[y]);have i:row (b,s,d++[y])=row (b,#v[y,[]]::s,d):=by ext row;simp
   show(λz c t j=>?_,λp a t j=>?_,h.ch.tail)
   .rw[i];rcases Ap.mp c with c|c
    .show h.ex z c t j
    .rw[Af] at c;subst c;rcases f t j with z|z
     .simp at z
     .show z
   .rw[i];show h.op p (An _ a) t j
  | cons t r=>
   change I g (if t∈b then _ else _);by_cases l:t∈b
   .rw[ng l];have i:row (b,#v[y,r]::s,d)=row (b,#v[y,t::r]::s,d):=rfl;show(λz c u e=>by rw[i];show h.ex z c u e,λp a u e=>?_,h.ch.head);rw[i];rcases Ak.mp a with rfl|a
    .rcases f u e with z|z
     .rcases Ak.mp z with rfl|z
      .right;rcases(o.eq u).mp l with z|z
       .right;let(q,n,rfl):=Ar.mp z;show Chn.path _ _ h.ch (List.sublist_append_right _ _) q n
       .refine .inl ?_;unfold Pre row;show Li.append (l₁:=[u]) (l₂:=d) (r₁:=[y]) (List.singleton_sublist.mpr z) (List.singleton_sublist.mpr Aw)
      .show .inl z
     .show .inr z
    .show h.op p (An _ a) u e
   .rw[nc l];have m:Li (row (b,#v[y,t::r]::s,d)) (row (b++[t],#v[t,g t]::#v[y,r]::s,d)):=by ext row;show Li.append (Li.refl _) (List.sublist_cons_self _ _)
    have k:∀{u v:Nat},(Pre (row (b,#v[y,t::r]::s,d)) u v\/Pth g (row (b,#v[y,t::r]::s,d)) u v)->Pre (row (b++[t],#v[t,g t]::#v[y,r]::s,d)) u v\/Pth g (row (b++[t],#v[t,g t]::#v[y,r]::s,d)) u v:=
     λh=>h.imp (λz=>z.trans m) λz=>z.mono m
    show(λz c u e=>k (h.ex z c u e),λp a u e=>?_,(o.op #v[y,t::r] Aw).1 t Aw,h.ch.head);rcases Ak.mp a with rfl|a
    .show .inl e
    .rcases Ak.mp a with rfl|a
     .rcases f u e with z|z
      .rcases Ak.mp z with rfl|z
       .right;show .inl ?_;unfold Pre row;show Li.trans ?_ (List.sublist_append_right _ _);show .cons_cons _ (.cons_cons _ (List.nil_sublist _))
       .show .inl z
      .show .inr (k z)
     .exact(h.op p (An _ a) u e).imp id k
def I.itr(x:Nat):∀k,Ok g x (itr g k ([x],[#v[x,g x]],[]))/\I g (itr g k ([x],[#v[x,g x]],[]))
 | 0=>(Ok.begin g x,I.begin g x)
 | k+1=>((I.itr x k).1.stp,(I.itr x k).2.stp (I.itr x k).1)
abbrev On(g:Nat->LQ):Nat->Nat->Prop:=λp y=>y∈g p/\p<y
def back{n:Nat}(h:Ends g 0 (Aj n).reverse){x y:Nat}(r:x<n)(o:y∈g x)(u:y<=x):BF.Rc (On g) y x:=by
 let(k,b,e):=h;have i:=(I.itr (g:=g) 0 k).2;rw[e] at i;have j:Tr (λa b=>b<a) (Aj n).reverse:=List.pairwise_reverse.mpr List.pairwise_lt_range;have t:row (b,[],(Aj n).reverse)=(Aj n).reverse:=by ext row;simp
 have f:∀{a c:Nat},Pre (Aj n).reverse a c->c<a:=fun{a c} p=>by have:=j.sublist p;simp at this;show this
 have d:∀z,Pth g (Aj n).reverse y z->BF.Rc (On g) y z:=by
  intro z m;induction m with
  | here=>show .here
  | step _ e p l=>show .step l (e,f p)
 have s:x∈(Aj n).reverse:=Dl.mpr (Hj.mpr r);have q:=i.ex x s y o;rw[t] at q;rcases q with q|q
 .show absurd (f q) 'o'
 .show d x q
def Zw5{n:Nat}(N:GT.Num g n):∀x,x<n->BF.Rc (On g) 0 x:=by
 intro x;induction x using Nat.strongRecOn with
 | ind x c=>
  intro d;by_cases b:x=0
  .subst b;show .here
  .let(p,a,e):=N.up x d b;show .step (c p a 'o') (e,a)
end DF
namespace KS
open ND
abbrev Rc(g:Nat->LQ)(x y:Nat):Prop:=BF.Rc (λp q=>q∈g p) x y
def Rc.trans{g:Nat->LQ}{x y z:Nat}(h:Rc g x y)(k:Rc g y z):Rc g x z:=by
 induction k with
 | here=>show h
 | step _ e a=>show .step a e
def Rc.one{g:Nat->LQ}{x y:Nat}(h:y∈g x):Rc g x y:= .step .here h
structure Mk(g:Nat->LQ)(z:St)(m:Nat->Nat):Prop where
 lo:∀p∈z.s,m p.1<=z.d.length
 op:∀p∈z.s,∀(i x:Nat),m p.1<=i->z.d[i]?=some x->Rc g p.1 x/\m p.1<=m x
 st:z.s.Pairwise λp q=>m q.1<=m p.1/\Rc g q.1 p.1
 dn:∀i x:Nat,z.d[i]?=some x->m x<=i/\∀j y:Nat,m x<=j->j<=i->z.d[j]?=some y->Rc g x y/\m x<=m y
 ed:∀i x:Nat,z.d[i]?=some x->∀y∈g x,(∃j,j<i/\z.d[j]?=some y)\/m y<=i
def Mk.begin(g:Nat->LQ)(x:Nat):Mk g ([x],[#v[x,g x]],[]) (λ_=>0) where
 lo:=λ_ _=>nk _
 op:=λ_ _ i x _ h=>by simp at h
 st:=List.pairwise_singleton _ _
 dn:=λi x h=>by simp at h
 ed:=λi x h=>by simp at h
def V6{d:LQ}{y i x:Nat}(h:(d++[y])[i]?=some x):(i<Ug d/\d[i]?=some x)\/(i=Ug d/\x=y):=by
 by_cases e:i<Ug d
 .rw[De e] at h;show .inl (e,h)
 .rw[Dg 'o'] at h;have:i - (Ug d)=0:=by
   by_cases z:i - (Ug d)=0
   .show z
   .rw[Hk (by simp;lia)] at h;cases h
  rw[this] at h;show .inr ('o',(Hb h).symm)
def Mk.stp{g:Nat->LQ}{T:Nat}{z:St}{m:Nat->Nat}(o:Ok g T z)(h:Mk g z m):∃c,Mk g (stp g z) c:=by
 let(b,s,d):=z;cases s with
 | nil=>show(m,h)
 | cons p s=>
  let(x,r):=p;let(A,E,Q,G,M):=h;simp only at A E Q G M;let(v,C):=List.pairwise_cons.mp Q;cases r with
  | nil=>
   show(m,?_);change Mk g (b,s,d++[x]) m;have W:=A #v[x,[]] Aw;have V:=E #v[x,[]] Aw;show(λp a=>?_,λp a i y w e=>?_,C,λi y e=>?_,λi y e t S=>?_)
   .have:=A p (An _ a);erw[Ag,Au];lia
   .rcases V6 e with⟨_,e⟩|⟨rfl,rfl⟩
    .show E p (An _ a) i y w e
    .exact((v p a).2,(v p a).1)
   .rcases V6 e with⟨l,e⟩|⟨rfl,rfl⟩
    .refine((G i y e).1,λj u I L n=>?_);rcases V6 n with⟨_,n⟩|⟨z,_⟩
     .exact(G i y e).2 j u I L n
     .lia
    .refine(W,λj u I L n=>?_);rcases V6 n with⟨_,n⟩|⟨_,rfl⟩
     .show V j u I n
     .exact(.here,na _)
   .have H:∀j,j<Ug d->d[j]?=some t->(d++[x])[j]?=some t:=λj F e=>by rw[De F];show e
    rcases V6 e with⟨l,e⟩|⟨rfl,rfl⟩
    .rcases M i y e t S with⟨j,F,n⟩|z
     .show .inl (j,F,H j 'o' n)
     .show .inr z
    .rcases(o.op #v[y,[]] Aw).2 t S with z|z
     .simp at z
     .rcases(o.eq t).mp z with z|z
      .let(q,k,rfl):=Ar.mp z;show .inr (A q k)
      .let(j,F):=List.mem_iff_getElem?.mp z;have l:=(Ab.mp F).1;show .inl (j,l,H j l F)
  | cons t r=>
   change ∃c,Mk g (if t∈b then _ else _) c;by_cases O:t∈b
   .rw[ng O];show(m,λp a=>?_,λp a=>?_,List.pairwise_cons.mpr (λq k=>v q k,C),G,M)
    .rcases Ak.mp a with rfl|a
     .show A #v[x,t::r] Aw
     .show A p (An _ a)
    .rcases Ak.mp a with rfl|a
     .show E #v[x,t::r] Aw
     .show E p (An _ a)
   .rw[nc O];let c:Nat->Nat:=λy=>if y=t then (Ug d) else m y;have N:c t=Ug d:=ng rfl;have f:∀y,y∈b->c y=m y:=λy K=>nc fun(e:y=t)=>O (e ▸ K);have D:∀p∈#v[x,t::r]::s,p.1∈b:=λp a=>(o.eq p.1).mpr (.inl (Ar.mpr (p,a,rfl)));have P:∀(i y:Nat),d[i]?=some y->y∈b:=λi y e=>(o.eq y).mpr (.inr (Am e));have B:Rc g x t:=Rc.one ((o.op #v[x,t::r] Aw).1 t Aw);have J:=D #v[x,t::r] Aw;show(c,λp a=>?_,λp a i y w e=>?_,?_,λi y e=>?_,λi y e u R=>?_)
    .rcases Ak.mp a with rfl|a
     .change c t<=_;rw[N];show na _
     .rcases Ak.mp a with rfl|a
      .change c x<=_;rw[f x J];show A #v[x,t::r] Aw
      .rw[f _ (D p (An _ a))];show A p (An _ a)
    .have K:=f y (P i y e);rcases Ak.mp a with rfl|a
     .exfalso;replace w:c t<=i:=w;rw[N] at w;have:i<Ug d:=(Ab.mp e).1;lia
     .rcases Ak.mp a with rfl|a
      .replace w:c x<=i:=w;change Rc g x y/\c x<=c y;rw[f x J] at w |-;rw[K];show E #v[x,t::r] Aw i y w e
      .rw[f _ (D p (An _ a))] at w |-;rw[K];show E p (An _ a) i y w e
    .refine List.pairwise_cons.mpr (λq k=>?_,List.pairwise_cons.mpr (λq k=>?_,?_))
     .change c q.1<=c t/\Rc g q.1 t;rw[N];rcases Ak.mp k with rfl|k
      .exact(by change c x<=_;rw[f x J];show A #v[x,t::r] Aw,B)
      .exact(by rw[f _ (D q (An _ k))];show A q (An _ k),(v q k).2.trans B)
     .change c q.1<=c x/\Rc g q.1 x;rw[f x J,f _ (D q (An _ k))];show v q k
     .refine Tr.imp_of_mem (fun{p q} a k h=>?_) C;rw[f _ (D p (An _ a)),f _ (D q (An _ k))];show h
    .rw[f y (P i y e)];show((G i y e).1,λj u I L n=>?_);rw[f u (P j u n)];show(G i y e).2 j u I L n
    .have U:=o.cl y (Am e) u R;rw[f u U];show M i y e u R
def Mk.itr{g:Nat->LQ}(x:Nat):∀k,Ok g x (itr g k ([x],[#v[x,g x]],[]))/\∃m,Mk g (itr g k ([x],[#v[x,g x]],[])) m
 | 0=>(Ok.begin g x,_,Mk.begin g x)
 | k+1=>by let(o,m,h):=Mk.itr x k;show(o.stp,h.stp o)
inductive Wy (g:Nat->LQ) (S:Nat->Prop) (p:Nat):Nat->Prop
 | here:S p->Wy g S p p
 | step {x y:Nat}:S x->y∈g x->Wy g S p y->Wy g S p x
def sound{g:Nat->LQ}{r:Nat}{d:LQ}(h:Ends g r d){j p x:Nat}(u:d[j]?=some p)(B:Wy g (λy=>∃i,i<=j/\d[i]?=some y) p x):Rc g p x:=by
 let(k,b,h):=h;let(o,m,M):=Mk.itr (g:=g) r k;rw[h] at o M;have v:d.Nodup:=by simpa using o.nd
 have q:∀{a c y:Nat},d[a]?=some y->d[c]?=some y->a=c:=fun{a c y} f l=>(List.getElem?_inj (Ab.mp f).1 v).mp (f.trans l.symm);let(w,s):=M.dn j p u
 suffices ∃a,m p<=a/\a<=j/\d[a]?=some x by let(a,f,l,n):=this;show(s a x f l n).1
 induction B with
 | here=>show(j,w,na _,u)
 | @step x y S e _ A=>
  let(a,f,l,n):=A;let(i,C,t):=S;show(i,?_,C,t);have E:=(s a y f l n).2;rcases M.ed i x t y e with⟨c,F,D⟩|z
  .have:=q D n;lia
  .lia
end KS
namespace DB
open KS
def lk(n:Nat)(g:Nat->LQ)(D:LQ)(x:Nat):LQ:=if x<n/\x∉D then(g x).filter λy=>y∉D else []
def mem_lk{n:Nat}{g:Nat->LQ}{D:LQ}{x y:Nat}:y∈lk n g D x↔(x<n/\x∉D)/\y∈g x/\y∉D:=by
 ext lk;by_cases h:x<n/\x∉D
 .rw[ng h];simp[h]
 .rw[nc h];erw[Hf,false_iff];show λz=>h z.1
structure Scc(n:Nat)(g:Nat->LQ)(D T:LQ):Prop where
 nd:T.Nodup
 lt:∀t∈T,t<n/\t∉D
 two:2<=Ug T
 mu:∀t∈T,∀u∈T,Rc (lk n g D) t u
 all:∀t∈T,∀x,x<n->x∉D->Rc (lk n g D) t x->Rc (lk n g D) x t->x∈T
def cp(n:Nat)(P:LQ)(x:Nat):Nat:=if x∈P then n+P.idxOf x else x
def pj(n:Nat)(P:LQ)(x:Nat):Nat:=if x<n then x else P.getD (x - n) 0
def nx(n:Nat)(g:Nat->LQ)(T P:LQ)(x:Nat):LQ:=if x<n then(if x∈T then g x else(g x).map (cp n P)) else(g (pj n P x)).map (cp n P)
structure Sp(n:Nat)(g:Nat->LQ)(D T:LQ)(h:Nat)(P:LQ):Prop where
 cl:∀x,x<n->∀y∈g x,y<n
 sc:Scc n g D T
 hT:h∈T
 Pn:P.Nodup
 Pt:∀p∈P,p∈T/\p≠h
def Ys4{n:Nat}{P:LQ}{y:Nat}(h:y<n):pj n P (cp n P y)=y:=by
 ext cp;by_cases e:y∈P
 .rw[ng e];ext pj;rw[nc 'o',Nat.add_sub_cancel_left,Ad,Aa (Dn e),Ki,Ih]
 .rw[nc e];ext pj;rw[ng h]
section
variable{n h:Nat}{g:Nat->LQ}{D T P:LQ}
def pj_old{x:Nat}(a:x<n):pj n P x=x:=ng a
def Qu{x:Nat}(b:n<=x)(a:x<n+Ug P):pj n P x∈P:=by ext pj;rw[nc 'o',Ad,Aa 'o',Ki];show He _
def Sp.pj_lt(s:Sp n g D T h P){x:Nat}(a:x<n+Ug P):pj n P x<n:=by
 by_cases e:x<n
 .rw[pj_old e];show e
 .exact(s.sc.lt _ (s.Pt _ (Qu 'o' a)).1).1
def Yi6(s:Sp n g D T h P){y:Nat}(a:y<n):cp n P y<n+Ug P:=by
 ext cp;by_cases e:y∈P
 .rw[ng e];have:=Dn e;lia
 .rw[nc e];lia
def Sp.cl'(s:Sp n g D T h P){x:Nat}(c:x<n+Ug P):∀y∈nx n g T P x,y<n+Ug P:=by
 intro y a;ext a nx;by_cases e:x<n
 .rw[ng e] at a;by_cases t:x∈T
  .rw[ng t] at a;have:=s.cl x e y a;lia
  .rw[nc t] at a;let(u,b,rfl):=Ar.mp a;show Yi6 s (s.cl x e u b)
 .rw[nc e] at a;let(u,b,rfl):=Ar.mp a;show Yi6 s (s.cl _ (s.pj_lt c) u b)
def Sp.over(s:Sp n g D T h P){x:Nat}(c:x<n+Ug P):(nx n g T P x).map (pj n P)=g (pj n P x):=by
 have a:∀l:LQ,(∀y∈l,y<n)->(l.map (cp n P)).map (pj n P)=l:=by
  intro l d;rw[Hw]
  calc l.map (pj n P ∘ cp n P)=l.map id:=Hu λy b=>Ys4 (d y b)
   _=l:=Mx l
 ext nx;by_cases e:x<n
 .rw[ng e,pj_old e];by_cases t:x∈T
  .rw[ng t]
   calc (g x).map (pj n P)=(g x).map id:=Hu λy b=>pj_old (s.cl x e y b)
    _=g x:=Mx _
  .rw[nc t];show a _ (s.cl x e)
 .rw[nc e];show a _ (s.cl _ (s.pj_lt c))
def lift{n':Nat}{g':Nat->LQ}{π:Nat->Nat}(p:∀x,x<n'->∀y∈g' x,y<n')(k:∀x,x<n'->(g' x).map π=g (π x)){x' y:Nat}(m:x'<n')(r:Rc g (π x') y):∃c,c<n'/\Rc g' x' c/\π c=y:=by
 induction r with
 | here=>show(x',m,.here,rfl)
 | @step a b _ e l=>let(j,f,o,rfl):=l;rw[<-k j f] at e;let(i,d,rfl):=Ar.mp e;show(i,p j f i d,.step o d,rfl)
def Sp.nd'(s:Sp n g D T h P){x:Nat}(a:x<n+Ug P)(b:x∉h::D):pj n P x∉D:=by
 by_cases e:x<n
 .rw[pj_old e];show λz=>b (An _ z)
 .exact(s.sc.lt _ (s.Pt _ (Qu 'o' a)).1).2
def Sp.down(s:Sp n g D T h P){x y:Nat}(r:Rc (lk (n+Ug P) (nx n g T P) (h::D)) x y):Rc (lk n g D) (pj n P x) (pj n P y):=by
 induction r with
 | here=>show .here
 | @step a b _ e f=>let((c,k),d,j):=mem_lk.mp e;have i:=s.cl' c b d;show .step f (mem_lk.mpr ((s.pj_lt c,s.nd' c k),?_,s.nd' i j));rw[<-s.over c];show Ar.mpr (b,d,rfl)
def Sp.cross(s:Sp n g D T h P){x y:Nat}(r:Rc (lk (n+Ug P) (nx n g T P) (h::D)) x y)(t:x<n)(q:n<=y):∃u,u<n/\u∉T/\u∉D/\Rc (lk (n+Ug P) (nx n g T P) (h::D)) x u/\Rc (lk (n+Ug P) (nx n g T P) (h::D)) u y:=by
 induction r with
 | here=>lia
 | @step a b d e f=>
  by_cases i:n<=a
  .let(u,o,m,l,k,j):=f i;show(u,o,m,l,k,.step j e)
  .let((w,p),c,v):=mem_lk.mp e;show(a,'o',λz=>?_,λz=>p (An _ z),d,.step .here e);ext c nx;rw[ng 'o',ng z] at c;have:=s.cl a 'o' b c;lia
def Cl(n:Nat)(g:Nat->LQ)(D:LQ)(f:Nat->Nat):Prop:=∀x y,x<n->y<n->x∉D->y∉D->Rc (lk n g D) x y->Rc (lk n g D) y x->f x=f y
def Sp.apart(s:Sp n g D T h P){x y:Nat}(f:x<n)(d:n<=y)(c:y<n+Ug P)(r:Rc (lk (n+Ug P) (nx n g T P) (h::D)) x y)(k:Rc (lk (n+Ug P) (nx n g T P) (h::D)) y x):False:=by let(u,e,m,l,j,i):=s.cross r f d;have a:=s.down i;have b:=s.down (k.trans j);rw[pj_old e] at a b;show m (s.sc.all _ (s.Pt _ (Qu d c)).1 u e l b a)
def Sp.clus(s:Sp n g D T h P){f:Nat->Nat}(c:Cl n g D f)(m:Nat):Cl (n+Ug P) (nx n g T P) (h::D) (λx=>if x<n then f x else m):=by
 intro x y j i o l r k;show(if x<n then f x else m)=if y<n then f y else m;by_cases e:x<n<;>by_cases d:y<n
 .rw[ng e,ng d];have a:=s.down r;have b:=s.down k;rw[pj_old e,pj_old d] at a b;show c x y e d (λz=>o (An _ z)) (λz=>l (An _ z)) a b
 .exact(s.apart e 'o' i r k).elim
 .exact(s.apart d 'o' j k r).elim
 .rw[nc e,nc d]
end
def cnt(n:Nat)(D:LQ)(f:Nat->Nat)(c:Nat):Nat:=((Aj n).filter λx=>decide (x∉D)&&decide (f x=c)).length
def wt(n:Nat)(D:LQ)(f:Nat->Nat)(m:Nat):Nat:=((Aj m).map λc=>2 ^ cnt n D f c - 1).sum
def Pu{m:Nat}{a b:Nat->Nat}(h:∀c,c<m->a c<=b c):((Aj m).map a).sum<=((Aj m).map b).sum:=by
 induction m with
 | zero=>show na _
 | succ m d=>rw[Kl,As,As,Kf,Kf];have:=d λc e=>h c 'o';have:=h m 'o';erw[Az,Dh,Lf,Mf];lia
def Cy{m c:Nat}{a b:Nat->Nat}(j:c<m)(h:∀i,i<m->i≠c->a i<=b i):((Aj m).map a).sum+b c<=((Aj m).map b).sum+a c:=by
 induction m with
 | zero=>lia
 | succ m d=>
  rw[Kl,As,As,Kf,Kf];erw[Az,Dh,Lf,Mf];by_cases e:c=m
  .subst e;have:=Pu (m:=c) (a:=a) (b:=b) λi g=>h i 'o' 'o';lia
  .have:=d 'o' λi g f=>h i 'o' f;have:=h m 'o' (Il e);lia
def Q9{p:Nat->Bool}{h:Nat}:∀{l:LQ},l.Nodup->h∈l->p h=true->l.countP p=l.countP (λx=>p x&&!decide (x=h))+1
 | [],_,c,_=>by simp at c
 | a::l,g,c,f=>by
  let(j,i):=Hq.mp g;by_cases e:a=h
  .subst e;have:l.countP p=l.countP (λx=>p x&&!decide (x=a)):=La λx k=>by have:x≠a:=λz=>j (z ▸ k);simp[this]
   rw[Ky (by show f),Lm 's',this]
  .have d:=Q9 i ((Ak.mp c).resolve_left λz=>e z.symm) f;by_cases b:p a=true
   .rw[Ky b,Ky (by simp[b,e]),d]
   .rw[Lm b,Lm (by simp[b]),d]
def Vm(n:Nat)(D:LQ)(f:Nat->Nat)(c:Nat):cnt n D f c=(Aj n).countP λx=>decide (x∉D)&&decide (f x=c):=by ext cnt;rw[List.countP_eq_length_filter]
def range_add(n k:Nat):Aj (n+k)=Aj n++(Aj k).map (n+·):=List.range_add
section
variable{n h m:Nat}{g:Nat->LQ}{D T P:LQ}{f:Nat->Nat}
abbrev up(n m:Nat)(f:Nat->Nat):Nat->Nat:=λx=>if x<n then f x else m
def Zk1{k c:Nat}(b:c≠m):cnt (n+k) (h::D) (up n m f) c=(Aj n).countP λx=>decide (x∉h::D)&&decide (f x=c):=by
 rw[Vm,range_add,List.countP_append];have:((Aj k).map (n+·)).countP (λx=>decide (x∉h::D)&&decide (up n m f x=c))=0:=by rw[List.countP_eq_zero];intro x a;let(i,_,rfl):=Ar.mp a;have:up n m f (n+i)=m:=nc 'o';rw[this];erw[Bz9,decide_eq_true_eq,not_and];show λ_ z=>b z.symm
 rw[this,Nat.add_zero];show La λx a=>?_;have:up n m f x=f x:=ng (Hj.mp a);rw[this]
def Ye5{k:Nat}(d:∀x,x<n->f x<m)(j:∀x∈h::D,x<n):cnt (n+k) (h::D) (up n m f) m=k:=by
 rw[Vm,range_add,List.countP_append];have a:(Aj n).countP (λx=>decide (x∉h::D)&&decide (up n m f x=m))=0:=by rw[List.countP_eq_zero];intro x c;have l:=Hj.mp c;have:up n m f x=f x:=ng l;rw[this];erw[Bz9,decide_eq_true_eq,not_and];have:=d x l;show λ_ z=>by lia
 have b:((Aj k).map (n+·)).countP (λx=>decide (x∉h::D)&&decide (up n m f x=m))=((Aj k).map (n+·)).length:=by rw[List.countP_eq_length];intro x c;let(i,_,rfl):=Ar.mp c;have e:up n m f (n+i)=m:=nc 'o';rw[e];erw[Bz9,decide_eq_true_eq,and_true];show λz=>by have:=j _ z;lia
 rw[a,b,Ai,Kj,Nat.zero_add]
def Sp.few(s:Sp n g D T h P)(c:Cl n g D f):Ug P+1<=cnt n D f (f h):=by
 have j:=s.sc.lt h s.hT;have l:Ug P+1<=Ug T:=by
  have:(h::P).length<=Ug T:=Ay (Hq.mpr (λz=>(s.Pt h z).2 rfl,s.Pn)) λx a=>by
   rcases Ak.mp a with rfl|a
   .show s.hT
   .exact(s.Pt x a).1
  simpa using this
 have k:Ug T<=cnt n D f (f h):=by ext cnt;show Ay s.sc.nd λt b=>?_;let(i,d):=s.sc.lt t b;have e:=c t h i j.1 d j.2 (s.sc.mu t b h s.hT) (s.sc.mu h s.hT t b);simp[i,d,e]
 lia
end
def Ow(p:Nat->Bool)(a:Nat)(l:LQ):l.countP p<=(a::l).countP p:=by
 by_cases h:p a=true
 .rw[Ky h];lia
 .rw[Lm h];show na _
def Ca{n:Nat}{D:LQ}{f:Nat->Nat}:∀(m:Nat) (l:LQ),(∀x∈l,f x<m)->l.countP (λx=>decide (x∉D))<=((Aj m).map λc=>l.countP λx=>decide (x∉D)&&decide (f x=c)).sum
 | m,[],_=>by simp
 | m,a::l,h=>by
  have d:=Ca (n:=n) (D:=D) m l λx g=>h x (An _ g);have j:=h a Aw;by_cases e:a∉D
  .rw[Ky ↥e];have:=Cy (m:=m) (c:=f a) (a:=λc=>l.countP λx=>decide (x∉D)&&decide (f x=c)) (b:=λc=>(a::l).countP λx=>decide (x∉D)&&decide (f x=c)) j λi _ _=>Ow _ _ _;replace this:_+(a::l).countP (λx=>decide (x∉D)&&decide (f x=f a))<=_+l.countP (λx=>decide (x∉D)&&decide (f x=f a)):=this;rw[Ky (a:=a) (p:=λx=>decide (x∉D)&&decide (f x=f a)) (by simp[e])] at this;lia
  .rw[Lm ↥e];show ni d (Pu λc _=>Ow _ _ _)
def many{n m:Nat}{D:LQ}{f:Nat->Nat}(g:∀x,x<n->f x<m):n<=Ug D+wt n D f m:=by
 have a:=Ca (n:=n) (D:=D) m (Aj n) λx e=>g x (Hj.mp e);have b:(Aj n).countP (λx=>decide (x∈D))<=Ug D:=by rw[List.countP_eq_length_filter];show Ay (Iq.filter _) λx e=>?_;simpa using (Di.mp e).2
 have c:n=(Aj n).countP (λx=>decide (x∈D))+(Aj n).countP (λx=>decide (x∉D)):=by
  have:=List.length_eq_countP_add_countP (p:=λx=>decide (x∈D)) (l:=Aj n);rw[Kj] at this;rw[this];congr 1
  .rw[<-this]
  .rw[<-this];show La λx _=>by simp
 have d:((Aj m).map λc=>(Aj n).countP λx=>decide (x∉D)&&decide (f x=c)).sum<=wt n D f m:=by ext wt;show Pu λc _=>?_;rw[<-Vm];have:=Nat.lt_two_pow_self (n:=cnt n D f c);lia
 lia
end DB
namespace OD
open KS DB
abbrev rs(g:Nat->LQ)(C:LQ):Nat->LQ:=λx=>(g x).filter λy=>decide (y∈C)
def Cn(g:Nat->LQ)(C:LQ):Prop:=∀x∈C,∀y∈C,Rc (rs g C) x y
def mem_rs{x y:Nat}:y∈rs g C x↔y∈g x/\y∈C:=by simp[rs]
def rs_in{x y:Nat}(h:Rc (rs g C) x y)(a:x∈C):y∈C:=by
 cases h with
 | here=>show a
 | step _ e=>show(mem_rs.mp e).2
structure Rg(n:Nat)(g:Nat->LQ)(h:Nat)(S:Nat->Prop):Prop where
 en:∀u,u<n->∀v∈g u,¬S u->S v->v=h
 z:S 0->h=0
structure OI(n:Nat)(g:Nat->LQ)(B:LQ):Prop where
 pos:0<n
 re:∀x,x<n->Rc g 0 x
 bl:∀x∈B,x<n
 cy:∀C:LQ,(∀x∈C,x<n)->Cn g C->(∀x∈C,x∉B)\/∃h S,Rg n g h S/\h∈B/\h∈C/\∀x∈C,S x
def OI.begin{n:Nat}(pos:0<n)(a:∀x,x<n->Rc g 0 x):OI n g []:=(pos,a,λx b=>by simp at b,λC _ _=> .inl λx _=>by simp)
structure Os(n:Nat)(g:Nat->LQ)(D T:LQ)(h:Nat)(P:LQ):Prop where
 sp:Sp n g D T h P
 dr:∀u,u<n->u∉T->∀y∈g u,y∈T->y=h\/y∈P
 cp:∀p∈P,∀y∈g p,y∈T->y=h\/y∈P
 src:∀(i p:Nat),P[i]?=some p->(∃u,u<n/\u∉T/\p∈g u)\/∃j q:Nat,j<i/\P[j]?=some q/\p∈g q
 z:0∈T->h=0
section
variable{n h:Nat}{g:Nat->LQ}{D T P:LQ}
def same(o:Os n g D T h P){x' x:Nat}(l:x'<n+Ug P)(a:x∉P)(e:pj n P x'=x):x'=x:=by
 by_cases b:x'<n
 .rw[pj_old b] at e;show e
 .exact(a (e ▸ Qu 'o' l)).elim
def Os.hP(o:Os n g D T h P):h∉P:=λz=>(o.sp.Pt h z).2 rfl
def Os.dP(o:Os n g D T h P){x:Nat}(a:x∈D):x∉P:=λz=>(o.sp.sc.lt x (o.sp.Pt x z).1).2 a
def Os.old(o:Os n g D T h P)(i:OI n g D){x:Nat}(a:x<n)(c:x∉P):Rc (nx n g T P) 0 x:=by have p:=i.pos;let(f,e,b,d):=lift (g:=g) (g':=nx n g T P) (n':=n+Ug P) (π:=pj n P) (λx a=>o.sp.cl' a) (λx a=>o.sp.over a) (x':=0) 'o' (y:=x) (by rw[pj_old p];show i.re x a);rw[same o e c d] at b;show b
def Os.re(o:Os n g D T h P)(i:OI n g D):∀x,x<n+Ug P->Rc (nx n g T P) 0 x:=by
 have M:=o.sp.sc.lt h o.sp.hT;have F:=o.old i M.1 o.hP;have k:∀{p:Nat},p∈T->Rc (nx n g T P) 0 p:=by
  intro p c;have:Rc (lk n g D) p h->Rc (nx n g T P) h p/\p∈T:=by
   have E:=o.sp.sc.mu h o.sp.hT p c;clear c;induction E with
   | here=>show λ_=>(.here,o.sp.hT)
   | @step a b G m l=>intro t;let(K,J):=l ((Rc.one m).trans t);let((C,R),B,O):=mem_lk.mp m;show(.step K ?_,o.sp.sc.all h o.sp.hT b (o.sp.cl a C b B) O (.step G m) t);change b∈nx n g T P a;ext nx;rw[ng C,ng J];show B
  show F.trans (this (o.sp.sc.mu p c h o.sp.hT)).1
 have r:∀(d p:Nat),P[d]?=some p->Rc (nx n g T P) 0 (n+P.idxOf p):=by
  intro d;induction d using Nat.strongRecOn with
  | _ d l=>
   intro p c;have v:=Am c;rcases o.src d p c with⟨u,w,f,e⟩|⟨j,q,L,y,e⟩
   .refine .step (o.old i w λz=>f (o.sp.Pt u z).1) ?_;change _∈nx n g T P u;ext nx;rw[ng w,nc f];show Ar.mpr (p,e,?_);ext DB.cp;rw[ng v]
   .have H:=Am y;have I:=Dn H;show .step (l j L q y) ?_;change _∈nx n g T P (n+P.idxOf q);have N:pj n P (n+P.idxOf q)=q:=by ext pj;rw[nc 'o',Nat.add_sub_cancel_left,Ad,Aa I,Ki,Ih]
    ext nx;rw[nc 'o',N];show Ar.mpr (p,e,?_);ext DB.cp;rw[ng v]
 intro x Q;by_cases e:x<n
 .by_cases s:x∈P
  .show k (o.sp.Pt x s).1
  .show o.old i e s
 .have A:x - n<Ug P:='o';have c:P[x - n]?=some P[x - n]:=Aa A;have:=r _ _ c;rwa[show n+P.idxOf P[x - n]=x by rw[ND.Yq o.sp.Pn A];lia] at this
def Cn.down(o:Os n g D T h P)(p:∀x∈C,x<n+Ug P)(c:Cn (nx n g T P) C):Cn g (C.map (pj n P)):=by
 intro a j b i;let(x,d,rfl):=Ar.mp j;let(y,m,rfl):=Ar.mp i;have r:=c x d y m;clear i j;induction r with
 | here=>show .here
 | @step u v k e l=>let(s,q):=mem_rs.mp e;have f:=rs_in k d;show .step (l f) (mem_rs.mpr (?_,Ar.mpr (v,q,rfl)));rw[<-o.sp.over (p u f)];show Ar.mpr (v,s,rfl)
def Zx5{x y:Nat}(r:Rc (rs g' C) x y)(f:x∈C)(k:x<n)(j:n<=y):∃u v,u∈C/\u<n/\v∈g' u/\n<=v:=by
 induction r with
 | here=>lia
 | @step a b c e d=>
  by_cases i:n<=a
  .show d i
  .exact(a,b,rs_in c f,'o',(mem_rs.mp e).1,j)
def OI.step(o:Os n g D T h P)(i:OI n g D):OI (n+Ug P) (nx n g T P) (D++[h]):=by
 show(by have:=i.pos;lia,o.re i,λx f=>?_,λC I c=>?_)
 .rcases Ap.mp f with f|f
  .have:=i.bl x f;lia
  .rw[Af] at f;subst f;have:=(o.sp.sc.lt x o.sp.hT).1;lia
 have N:=Cn.down o I c;have t:∀x∈C.map (pj n P),x<n:=λx f=>by let(y,B,rfl):=Ar.mp f;show o.sp.pj_lt (I y B)
 rcases i.cy _ t N with nod|⟨d,S,rg,dD,dC,sS⟩
 .by_cases E:h∈C.map (pj n P)
  .right;have A:∀x∈C.map (pj n P),x∈T:=by
    intro x f;have Q:∀{a b:Nat},a∈C.map (pj n P)->Rc (rs g (C.map (pj n P))) a b->Rc (lk n g D) a b:=by
     intro a b Z r;induction r with
     | here=>show .here
     | @step u v U e W=>let(e1,e2):=mem_rs.mp e;have k:=rs_in U Z;show .step W (mem_lk.mpr ((t u k,nod u k),e1,nod v e2))
    show o.sp.sc.all h o.sp.hT x (t x f) (nod x f) (Q E (N h E x f)) (Q f (N x f h E))
   let(J,l,eh):=Ar.mp E;have:=same o (I J l) o.hP eh;subst this;have Y:=(o.sp.sc.lt J o.sp.hT).1;have w:∀x∈C,x<n:=by
    intro x f;by_cases e:x<n
    .show e
    .exfalso;let(u,v,k,s,j,X):=Zx5 (c J l x f) l Y 'o';have G:u∈T:=by have:=A (pj n P u) (Ar.mpr (u,k,rfl));rwa[pj_old s] at this
     ext j nx;rw[ng s,ng G] at j;have:=o.sp.cl u s v j;lia
   show(J,λx=>x<n/\x∈T,(λu k v j L K=>?_,λH=>o.z H.2),by simp,l,λx f=>(w x f,?_))
   .let(v1,O):=K;ext j nx;by_cases e:u<n
    .have G:u∉T:=λz=>L (e,z);rw[ng e,nc G] at j;let(y,B,p):=Ar.mp j;ext p DB.cp;by_cases q:y∈P
     .rw[ng q] at p;lia
     .rw[nc q] at p;subst p;show(o.dr u e G y B O).resolve_right q
    .rw[nc e] at j;let(y,B,p):=Ar.mp j;have V:pj n P u∈P:=Qu 'o' k;ext p DB.cp;by_cases q:y∈P
     .rw[ng q] at p;lia
     .rw[nc q] at p;subst p;show(o.cp _ V y B O).resolve_right q
   .have:=A (pj n P x) (Ar.mpr (x,f,rfl));rwa[pj_old (w x f)] at this
  .refine .inl ?_;intro x f z;have M:pj n P x=x:=by
    have:x<n:=by
     rcases Ap.mp z with z|z
     .show i.bl x z
     .rw[Af] at z;subst z;show(o.sp.sc.lt x o.sp.hT).1
    show pj_old this
   have m:x∈C.map (pj n P):=Ar.mpr (x,f,M);rcases Ap.mp z with z|z
   .show nod x m z
   .rw[Af] at z;subst z;show E m
 .right;let(R,F,ed):=Ar.mp dC;have:=same o (I R F) (o.dP dD) ed;subst this;show(R,λx=>S (pj n P x),(λu k v j L K=>?_,λH=>?_),Ax _ dD,F,λx f=>sS _ (Ar.mpr (x,f,rfl)))
  .have e:=rg.en (pj n P u) (o.sp.pj_lt k) (pj n P v) (by rw[<-o.sp.over k];show Ar.mpr (v,j,rfl)) L K;show same o (o.sp.cl' k v j) (o.dP dD) e
  .rw[pj_old i.pos] at H;show rg.z H
end
def path{t k:Nat}(r:BF.Rc (DF.On g) t k):∃L:LQ,t∈L/\k∈L/\(∀x∈L,t<=x/\x<=k)/\∀x∈L,Rc (rs g L) t x/\Rc (rs g L) x k:=by
 have d:∀{L l:LQ} {x y:Nat},(∀z∈L,z∈l)->Rc (rs g L) x y->Rc (rs g l) x y:=by
  intro L l x y h r;induction r with
  | here=>show .here
  | step _ e i=>show .step i (mem_rs.mpr ((mem_rs.mp e).1,h _ (mem_rs.mp e).2))
 induction r with
 | here=>show([t],by simp,by simp,λx c=>by simp at c;lia,λx c=>by simp at c;subst c;show(.here,.here))
 | @step a b _ e i=>
  let(L,q,n,m,j):=i;have f:∀z∈L,z∈L++[b]:=λz p=>Ax _ p;have o:b∈rs g (L++[b]) a:=mem_rs.mpr (e.1,by simp);have s:=(m a n).1;have u:=e.2;show(L++[b],f t q,by simp,λx c=>?_,λx c=>?_)
  .rcases Ap.mp c with c|c
   .have:=m x c;lia
   .simp at c;lia
  .rcases Ap.mp c with c|c
   .exact(d f (j x c).1,.step (d f (j x c).2) o)
   .rw[Af] at c;subst c;show(.step (d f (j a n).1) o,.here)
structure Ov(N:Nat)(q:Nat->LQ)(n:Nat)(g:Nat->LQ)(τ:Nat->Nat):Prop where
 num:GT.Num q N
 en:ND.Ends q 0 (Aj N).reverse
 lt:∀k,k<N->τ k<n
 inj:∀j k,j<N->k<N->τ j=τ k->j=k
 z:τ 0=0
 ov:∀k,k<N->∀t∈q k,τ t∈g (τ k)
def orderly{N n:Nat}{d:Nat->Nat}(v:Ov N q n g d)(o:OI n g B)(al:∀x y,x<n->y<n->x∉B->y∉B->Rc (lk n g B) x y->Rc (lk n g B) y x->x=y){k t:Nat}(P:k<N)(M:t∈q k)(O:t<=k):¬GT.Av q t k:=by
 intro Z;have f:=v.num.cl k P t M;have ne:t≠k:=λe=>by subst e;show Z.ne rfl
 let(L,I,U,H,Y):=path (DF.back v.en P M O);have T:∀x∈L,x<N:=λx l=>by have:=(H x l).2;lia
 have c:Cn g (L.map d):=by
  intro a R b F;let(x,l,rfl):=Ar.mp R;let(y,K,rfl):=Ar.mp F;have D:∀{u w:Nat},u∈L->Rc (rs q L) u w->Rc (rs g (L.map d)) (d u) (d w):=by
   intro u w E r;induction r with
   | here=>show .here
   | @step a b ra e p=>have:=rs_in ra E;show .step p (mem_rs.mpr (v.ov a (T a this) b (mem_rs.mp e).1,Ar.mpr (b,(mem_rs.mp e).2,rfl)))
  have V:Rc (rs q L) k t:=Rc.one (mem_rs.mpr (M,I));show D l (((Y x l).2.trans V).trans (Y y K).1)
 have G:∀x∈L.map d,x<n:=λx l=>by let(y,K,rfl):=Ar.mp l;show v.lt y (T y K)
 have A:d t∈L.map d:=Ar.mpr (t,I,rfl);have C:d k∈L.map d:=Ar.mpr (k,U,rfl);rcases o.cy _ G c with nod|⟨h,S,rg,hB,hm,sS⟩
 .have D:∀{a b:Nat},a∈L.map d->Rc (rs g (L.map d)) a b->Rc (lk n g B) a b:=by
   intro a b R r;induction r with
   | here=>show .here
   | @step u w ru e p=>let(V,e2):=mem_rs.mp e;have E:=rs_in ru R;show .step p (mem_lk.mpr ((G u E,nod u E),V,nod w e2))
  show ne (v.inj t k f P (al _ _ (G _ A) (G _ C) (nod _ A) (nod _ C) (D A (c _ A _ C)) (D C (c _ C _ A))))
 .let(j,X,rfl):=Ar.mp hm;have jt:=(H j X).1;have first:∀{x:Nat},BF.Rc (DF.On q) 0 x->x<N->S (d x)->∃i,i<=x/\i<N/\d i=d j:=by
   intro x r;induction r with
   | here=>intro l s;rw[v.z] at s;show(0,na _,l,by rw[v.z];show(rg.z s).symm)
   | @step a b _ e p=>
    intro F s;have m:a<N:=Nat.lt_trans e.2 F;by_cases W:S (d a)
    .let(i,I,U,H):=p m W;show(i,mf (Nat.lt_of_le_of_lt I e.2),U,H)
    .exact(b,na _,F,rg.en _ (v.lt a m) _ (v.ov a m b e.1) W s)
  let(i,hi,Q,ei):=first (DF.Zw5 v.num t f) f (sS _ A);have:i=j:=v.inj i j Q (T j X) ei;have e:j=t:='o';subst e;have J:∀{x:Nat},GT.Av q j x->¬S (d x):=by
   intro x ax;induction ax with
   | zero h0=>intro s;rw[v.z] at s;show h0 (v.inj j 0 f v.num.pos (by rw[v.z];show rg.z s))
   | @step a b aa e nb p=>intro s;have m:=aa.lt v.num;show nb (v.inj b j (v.num.cl a m b e) f (rg.en _ (v.lt a m) _ (v.ov a m b e) p s))
  show J Z (sS _ C)
def Zk9{g:Nat->LQ}{z:Nat}{P:Nat->Prop}(h0:P z)(k:∀a b,b∈g a->Rc g b z->P b->P a){x:Nat}(h:Rc g x z):P x:=by
 have c:∀y,Rc g x y->(Rc g y z)->P y->P x:=by
  intro y i;induction i with
  | here=>show λ_ h=>h
  | @step a b _ e f=>show λd j=>f ((Rc.one e).trans d) (k a b e d j)
 show c z h .here h0
def rs_mono{L a:LQ}{x y:Nat}(h:∀z∈L,z∈a)(r:Rc (rs g L) x y):Rc (rs g a) x y:=by
 induction r with
 | here=>show .here
 | step _ e b=>show .step b (mem_rs.mpr ((mem_rs.mp e).1,h _ (mem_rs.mp e).2))
def nodes(s:∀x,∀y∈q x,y∈g x){t k:Nat}(r:Rc q t k):∃L:LQ,t∈L/\k∈L/\∀x∈L,Rc (rs g L) t x/\Rc (rs g L) x k/\Rc q t x/\Rc q x k:=by
 induction r with
 | here=>show([t],by simp,by simp,λx d=>by simp at d;subst d;show(.here,.here,.here,.here))
 | @step a b i e o=>
  let(L,v,u,f):=o;have c:∀z∈L,z∈L++[b]:=λz p=>Ax _ p;have h:b∈rs g (L++[b]) a:=mem_rs.mpr (s a b e,by simp);show(L++[b],c t v,by simp,λx d=>?_);rcases Ap.mp d with d|d
  .let(n,m,l,j):=f x d;show(rs_mono c n,.step (rs_mono c m) h,l,.step j e)
  .rw[Af] at d;subst d;show(.step (rs_mono c (f a u).1) h,.here,.step i e,.here)
def Ord(n:Nat)(g:Nat->LQ):Prop:=∀k,k<n->∀t∈g k,t<=k->¬GT.Av g t k
section
variable{n:Nat}{g:Nat->LQ}{D T:LQ}
def Yt7{T:LQ}(h:T≠[]):∃r∈T,∀x∈T,r<=x:=by
 induction T with
 | nil=>show absurd rfl h
 | cons a l f=>
  by_cases e:l=[]
  .subst e;show(a,by simp,λx b=>by simp at b;lia)
  .let(r,i,d):=f e;by_cases c:a<=r
   .exact(a,by simp,λx b=>by
     rcases Ak.mp b with rfl|b
     .show na _
     .show ni c (d x b))
   .exact(r,An _ i,λx b=>by
     rcases Ak.mp b with rfl|b
     .lia
     .show d x b)
def one_door(cl:∀x,x<n->∀y∈g x,y<n)(od:Ord n g)(i:OI n g D)(o:Scc n g D T):∃r∈T,(∀u,u<n->u∉T->∀y∈g u,y∈T->y=r)/\(0∈T->r=0):=by
 have ne:T≠[]:=by have:=o.two;intro e;rw[e] at this;simp at this
 let(r,t,lo):=Yt7 ne;have V:=o.lt r t;show(r,t,λu E uT y hy N=>?_,λh0=>by have:=lo 0 h0;lia);by_cases yr:y=r
 .show yr
 exfalso;have Y:∀z∈T,¬GT.Av g r z:=by
  intro z Z;have:Rc (lk n g D) r z->¬GT.Av g r z:=by
   show Zk9 (P:=λa=>Rc (lk n g D) r a->¬GT.Av g r a) ?_ ?_ (o.mu z Z r t)
   .show λ_ m=>m.ne rfl
   .intro a b e rb c I m;let((A,K),e3,e4):=mem_lk.mp e;have aT:a∈T:=o.all r t a A K I ((Rc.one e).trans rb);by_cases B:b=r
    .subst B;show od a A b e3 (lo a aT) m
    .show c (.step I e) (.step m e3 B)
  show this (o.mu r t z Z)
 have nu:¬GT.Av g r u:=λm=>Y y N (.step m hy yr);have ur:u≠r:=λe=>uT (e ▸ t);let q:Nat->LQ:=λx=>(g x).filter λz=>decide (z≠r);have J:∀{x z:Nat},z∈q x↔z∈g x/\z≠r:=fun{x z}=>by simp[q]
 have fr:∀{x:Nat},Rc g 0 x->GT.Av g r x\/Rc q r x:=by
  intro x v;induction v with
  | here=>
   by_cases e:r=0
   .rw[e];show .inr .here
   .show .inl (.zero e)
  | @step a b _ e c=>
   by_cases B:b=r
   .rw[B];show .inr .here
   .rcases c with m|I
    .show .inl (.step m e B)
    .show .inr (.step I (J.mpr (e,B)))
 have U:=(fr (i.re u E)).resolve_left nu;let(f,a1,G,L):=nodes (q:=q) (g:=g) (λx z s=>(J.mp s).1) U;let(j,b1,b2,F):=nodes (q:=lk n g D) (g:=g) (λx z s=>(mem_lk.mp s).2.1) (o.mu y N r t);have p:∀z∈f,z∈f++j:=λz s=>Ax _ s;have H:∀z∈j,z∈f++j:=λz s=>Dm _ s;have k:∀x∈f++j,Rc (rs g (f++j)) x r/\Rc (rs g (f++j)) r x:=by
  have uy:Rc (rs g (f++j)) u y:=Rc.one (mem_rs.mpr (hy,H y b1));have M:Rc (rs g (f++j)) y r:=rs_mono H (F y b1).2.1;intro x l;rcases Ap.mp l with l|l
  .exact((rs_mono p (L x l).2.1).trans (uy.trans M),rs_mono p (L x l).1)
  .exact(rs_mono H (F x l).2.1,((rs_mono p (L u G).1).trans uy).trans (rs_mono H (F x l).1))
 have cn:Cn g (f++j):=λx l z s=>(k x l).1.trans (k z s).2;have X:∀{x:Nat},Rc g r x->x<n:=by
  intro x v;induction v with
  | here=>show V.1
  | step _ e c=>show cl _ c _ e
 have O:∀{a b:Nat},Rc (rs g (f++j)) a b->Rc g a b:=by
  intro a b r;induction r with
  | here=>show .here
  | step _ e c=>show .step c (mem_rs.mp e).1
 have hC:∀x∈f++j,x<n:=λx l=>X (O (k x l).2);rcases i.cy _ hC cn with nod|⟨h,S,rg,hD,hm,sS⟩
 .have up:∀{a b:Nat},a∈f++j->Rc (rs g (f++j)) a b->Rc (lk n g D) a b:=by
   intro a b ha r;induction r with
   | here=>show .here
   | @step u w U e c=>let(A,K):=mem_rs.mp e;have E:=rs_in U ha;show .step c (mem_lk.mpr ((hC u E,nod u E),A,nod w K))
  show uT (o.all r t u E (nod u (p u G)) (up (p r a1) (k u (p u G)).2) (up (p u G) (k u (p u G)).1))
 .have hr:h≠r:=λe=>V.2 (e ▸ hD);have Sr:=sS r (p r a1);have m:GT.Av g r h:=by
   have W:∀{x:Nat},Rc g 0 x->x<n/\(GT.Av g r h\/(GT.Av g r x/\¬S x)):=by
    intro x v;induction v with
    | here=>
     show(i.pos,?_);by_cases R:S 0
     .have:=rg.z R;subst this;show .inl (.zero λe=>hr e.symm)
     .show .inr (.zero λe=>R (e ▸ Sr),R)
    | @step a b _ e c=>
     let(la,c):=c;show(cl a la b e,?_);rcases c with d|⟨d,h2⟩
     .show .inl d
     .by_cases Q:S b
      .have:=rg.en a la b e h2 Q;subst this;show .inl (.step d e hr)
      .show .inr (.step d e λz=>Q (z ▸ Sr),Q)
   rcases(W (i.re r V.1)).2 with d|⟨d,_⟩
   .show d
   .show absurd rfl d.ne
  have hT:h∉T:=λz=>(o.lt h z).2 hD;have d:h∈f:=by
   rcases Ap.mp hm with d|d
   .show d
   .exfalso;have A:=(F h d).2.2.1;have K:=(F h d).2.2.2;have hd:h∉D:=by
     cases A with
     | here=>show(o.lt _ N).2
     | step _ e=>show(mem_lk.mp e).2.2
    show hd hD
  have C:∀{x:Nat},Rc q h x->GT.Av g r x:=by
   intro x v;induction v with
   | here=>show m
   | step _ e c=>show .step c (J.mp e).1 (J.mp e).2
  show nu (C (L h d).2.2.2)
end
end OD
namespace DB
open KS
inductive Kd where
 | gen | pla | zer
def wk:Kd->Nat->Nat
 | .gen,k=>2 ^ k - 1
 | .pla,k=>2 * k - 1
 | .zer,k=>2 ^ (k - 1)
def Yv3(d:Kd)(k:Nat):k<=wk d k:=by
 cases d with
 | gen=>have:=Nat.lt_two_pow_self (n:=k);change k<=2 ^ k - 1;lia
 | pla=>change k<=2 * k - 1;lia
 | zer=>
  change k<=2 ^ (k - 1);cases k with
  | zero=>show nk _
  | succ k=>have:=Nat.lt_two_pow_self (n:=k);rw[Nat.add_sub_cancel];lia
def tot(n:Nat)(D:LQ)(f:Nat->Nat)(kd:Nat->Kd)(m:Nat):Nat:=((Aj m).map λc=>wk (kd c) (cnt n D f c)).sum
structure IK(n:Nat)(g:Nat->LQ)(D:LQ)(f:Nat->Nat)(kd:Nat->Kd)(m:Nat):Prop where
 hf:∀x,x<n->f x<m
 cl:Cl n g D f
 bl:∀x∈D,x<n
 ma:∀x y,x<n->y<n->kd (f x)= .pla->f y=f x->x∉D/\Rc (lk n g D) x y
 su:∀x,x<n->kd (f x)= .pla->∃s,∀y∈g x,f y=f x->y=s
 ze:∀c,c<m->kd c= .zer->0∉D/\f 0=c
def IK.many{n m:Nat}{D:LQ}{kd:Nat->Kd}(i:IK n g D f kd m):n<=Ug D+tot n D f kd m:=by
 have a:=Ca (n:=n) (D:=D) m (Aj n) λx e=>i.hf x (Hj.mp e);have b:(Aj n).countP (λx=>decide (x∈D))<=Ug D:=by rw[List.countP_eq_length_filter];show Ay (Iq.filter _) λx e=>?_;simpa using (Di.mp e).2
 have c:n=(Aj n).countP (λx=>decide (x∈D))+(Aj n).countP (λx=>decide (x∉D)):=by
  have:=List.length_eq_countP_add_countP (p:=λx=>decide (x∈D)) (l:=Aj n);rw[Kj] at this;rw[this];congr 1
  .rw[<-this]
  .rw[<-this];show La λx _=>by simp
 have d:((Aj m).map λc=>(Aj n).countP λx=>decide (x∉D)&&decide (f x=c)).sum<=tot n D f kd m:=by ext tot;show Pu λc _=>?_;rw[<-Vm];show Yv3 _ _
 lia
section
variable{n h m:Nat}{g:Nat->LQ}{D T P:LQ}{f:Nat->Nat}{kd:Nat->Kd}
def IK.way(i:IK n g D f kd m){x y z:Nat}(d:x<n)(j:x∉D)(s:∀x,x<n->∀y∈g x,y<n)(p:Rc (lk n g D) x y)(o:Rc (lk n g D) y x):f y=f x/\y<n/\y∉D:=by
 cases p with
 | here=>show(rfl,d,j)
 | @step a b l e=>let((r,t),q,k):=mem_lk.mp e;have c:=s a r y q;show((i.cl x y d c j k (.step l e) o).symm,c,k)
def IK.tc(i:IK n g D f kd m)(s:Sp n g D T h P){t:Nat}(a:t∈T):f t=f h:=by let(c,b):=s.sc.lt t a;let(e,d):=s.sc.lt h s.hT;show i.cl t h c e b d (s.sc.mu t a h s.hT) (s.sc.mu h s.hT t a)
def IK.other(i:IK n g D f kd m)(s:Sp n g D T h P){x:Nat}(a:f x≠f h):x∉T/\x∉P:=(λz=>a (i.tc s z),λz=>a (i.tc s (s.Pt x z).1))
def IK.keep(i:IK n g D f kd m)(s:Sp n g D T h P){x y:Nat}(k:x<n)(r:y<n)(u:kd (f x)= .pla)(c:f y=f x)(d:f x≠f h):x∉h::D/\Rc (lk (n+Ug P) (nx n g T P) (h::D)) x y:=by
 have q:∀{z:Nat},f z=f x->z∉D->z∉h::D:=fun{z} e F w=>by
  rcases Ak.mp w with rfl|w
  .show d e.symm
  .show F w
 let(l,o):=i.ma x y k r u c;show(q rfl l,?_);have j:Rc (lk n g D) y x:=(i.ma y x r k (by rw[c];show u) c.symm).2;have:Rc (lk n g D) y x->Rc (lk (n+Ug P) (nx n g T P) (h::D)) x y:=by
  clear j c r;induction o with
  | here=>show λ_=> .here
  | @step a b t e E=>intro p;let((J,I),H,G):=mem_lk.mp e;have A:=(i.way (z:=0) k l s.cl t ((Rc.one e).trans p)).1;have v:=(i.way (z:=0) k l s.cl (.step t e) p).1;show .step (E ((Rc.one e).trans p)) (mem_lk.mpr (('o',q A I),?_,q v G));have C:=i.other s (x:=a) (by rw[A];show d);have B:=i.other s (x:=b) (by rw[v];show d);ext nx;rw[ng J,nc C.1];show Ar.mpr (b,H,?_);ext cp;rw[nc B.2]
 show this j
def IK.keep2(i:IK n g D f kd m)(s:Sp n g D T h P){d:Nat->Nat}{x:Nat}(t:∀y,y<n+Ug P->d y=f x->y<n/\d y=f y)(k:x<n)(r:kd (f x)= .pla)(c:f x≠f h):∃z,∀y∈nx n g T P x,d y=f x->y=z:=by
 let(z,p):=i.su x k r;have o:=i.other s c;show(z,λy a e=>?_);have l:=s.cl' (x:=x) 'o' y a;let(w,v):=t y l e;ext a nx;rw[ng k,nc o.1] at a;let(u,q,b):=Ar.mp a;ext b cp;by_cases j:u∈P
 .rw[ng j] at b;lia
 .rw[nc j] at b;subst b;show p u q (by rw[<-v];show e)
def Zu1{c k:Nat}(i:c<m)(d:c≠f h):cnt (n+k) (h::D) (up n m f) c=cnt n D f c:=by
 rw[Zk1 'o',Vm];show La λx _=>?_;erw[Ak,not_or,Bz9,decide_eq_true_eq];constructor
 .rintro⟨⟨_,a⟩,b⟩;show(a,b)
 .rintro⟨a,b⟩;show((λe=>d (by rw[<-b,e]),a),b)
def Zp7(c:h<n)(e:h∉D)(i:f h<m){k:Nat}:cnt (n+k) (h::D) (up n m f) (f h)+1=cnt n D f (f h):=by
 rw[Zk1 'o',Vm n D f (f h),Q9 (p:=λx=>decide (x∉D)&&decide (f x=f h)) (h:=h) Iq (Hj.mpr c) (by simp[e])];congr 1;show La λx _=>?_;erw[Ak,not_or,Bz9,decide_eq_true_eq,Bool.not_eq_true',decide_eq_false_iff_not];constructor
 .rintro⟨⟨a,b⟩,d⟩;show((b,d),a)
 .rintro⟨⟨b,d⟩,a⟩;show((a,b),d)
def IK.up(i:IK n g D f kd m)(s:Sp n g D T h P)(hk:kd (f h)≠ .pla)(u:Kd)(L:u≠ .pla)(hz:u= .zer->h≠0/\kd (f h)= .zer)(V:kd (f h)≠ .zer->u= .gen)
  (W:wk u (cnt n D f (f h) - 1)+(2 ^ (Ug P) - 1)+1<=wk (kd (f h)) (cnt n D f (f h))):
  ∃d,IK (n+Ug P) (nx n g T P) (h::D) (DB.up n m f) d (m+1)/\tot (n+Ug P) (h::D) (DB.up n m f) d (m+1)+1<=tot n D f kd m:=by
 let(M,X):=s.sc.lt h s.hT;have O:=i.hf h M;have Z:=s.few i.cl;have l:∀{x:Nat},x<n->DB.up n m f x=f x:=fun{x} j=>ng j;have z:∀{x:Nat},¬x<n->DB.up n m f x=m:=fun{x} j=>nc j;have R:∀{x:Nat},x<n+Ug P->DB.up n m f x<m->x<n:=fun{x} _ h=>by
  by_cases e:x<n
  .show e
  .rw[z e] at h;lia
 let d:Nat->Kd:=λc=>if c=m then .gen else if c=f h then u else kd c;have I:d m= .gen:=ng rfl;have J:d (f h)=u:=by show(if f h=m then _ else _)=_;rw[nc 'o',ng rfl]
 have H:∀{c:Nat},c<m->c≠f h->d c=kd c:=fun{c} h1 Y=>by show(if c=m then _ else _)=_;rw[nc 'o',nc Y]
 have A:∀{x:Nat},x<n+Ug P->d (DB.up n m f x)= .pla->x<n/\kd (f x)= .pla/\f x≠f h:=fun{x} j p=>by
  by_cases e:x<n
  .rw[l e] at p;by_cases q:f x=f h
   .rw[q,J] at p;show absurd p L
   .rw[H (i.hf x e) q] at p;show(e,p,q)
  .rw[z e,I] at p;cases p
 show(d,(λx j=>?_,?_,λx j=>?_,λx y j K p e=>?_,λx j p=>?_,λc N o=>?_),?_)
 .show(if x<n then f x else m)<m+1;split
  .have:=i.hf x (by assumption);lia
  .lia
 .show s.clus i.cl m
 .rcases Ak.mp j with rfl|j
  .lia
  .have:=i.bl x j;lia
 .let(r,G,F):=A j p;rw[l r] at e;have v:=R K (by rw[e];show i.hf x r);rw[l v] at e;show i.keep s r v G e F
 .let(r,G,F):=A j p;rw[l r];show i.keep2 s (λy K e=>?_) r G F;have v:=R K (by rw[e];show i.hf x r);show(v,l v)
 .by_cases e:c=m
  .rw[e,I] at o;cases o
  .have Q:c<m:='o';by_cases q:c=f h
   .rw[q,J] at o;let(U,S):=hz o;let(E,C):=i.ze (f h) O S;show(λw=>?_,?_)
    .rcases Ak.mp w with w|w
     .show U w.symm
     .show E w
    .rw[l 'o',q];show C
   .rw[H Q q] at o;let(E,C):=i.ze c Q o;show(λw=>?_,by rw[l 'o'];show C);rcases Ak.mp w with w|w
    .show q (by rw[<-C,w])
    .show E w
 .unfold tot;rw[Kl,As,Kf];erw[Az,Dh,Lf,Mf,Nat.add_zero];rw[I,Ye5 i.hf λx j=>by
   rcases Ak.mp j with rfl|j
   .show M
   .show i.bl x j]
  have t:=Cy (m:=m) (c:=f h) (a:=λc=>wk (d c) (cnt (n+Ug P) (h::D) (DB.up n m f) c)) (b:=λc=>wk (kd c) (cnt n D f c)) O λc N B=>by change wk (d c) _<=wk (kd c) _;rw[H N B,Zu1 N B];show na _
  replace t:_+wk (kd (f h)) (cnt n D f (f h))<=_+wk (d (f h)) (cnt (n+Ug P) (h::D) (DB.up n m f) (f h)):=t;rw[J] at t;have e0:=Zp7 (n:=n) (m:=m) (f:=f) M X O (k:=Ug P);rw[show cnt n D f (f h) - 1=cnt (n+Ug P) (h::D) (DB.up n m f) (f h) by lia] at W;change _+(2 ^ (Ug P) - 1)+1<=_;lia
def Oc{x y:Nat}(r:Rc g x y):x=y\/∃b∈g x,Rc g b y:=by
 induction r with
 | here=>show .inl rfl
 | @step a b _ e d=>
  right;rcases d with rfl|⟨c,h1,h2⟩
  .exact(b,e,.here)
  .exact(c,h1,.step h2 e)
def IK.alone(i:IK n g D f kd m)(s:Sp n g D T h P)(C:kd (f h)= .pla){x y:Nat}(B:x<n+Ug P)(M:x∉h::D)(c0:f (pj n P x)=f h)(R:Rc (lk (n+Ug P) (nx n g T P) (h::D)) x y)(Q:Rc (lk (n+Ug P) (nx n g T P) (h::D)) y x):x=y:=by
 apply Lg;intro V;let(K,hD):=s.sc.lt h s.hT;let A:Nat->Prop:=λz=>Rc (lk (n+Ug P) (nx n g T P) (h::D)) x z/\Rc (lk (n+Ug P) (nx n g T P) (h::D)) z x;have p:=s.pj_lt B;have H:=s.nd' B M;have next:∀z,A z->∃d,d∈lk (n+Ug P) (nx n g T P) (h::D) z/\A d:=by
  intro z c;by_cases e:z=x
  .subst e;rcases Oc R with e|⟨b,h1,h2⟩
   .show absurd e V
   .exact(b,h1,.step .here h1,h2.trans Q)
  .rcases Oc c.2 with L|⟨b,h1,h2⟩
   .show absurd L e
   .exact(b,h1,.step c.1 h1,h2)
 have l:∀z,A z->f (pj n P z)=f h/\pj n P z<n:=λz c=>by let(U,S,_):=i.way (z:=0) p H s.cl (s.down c.1) (s.down c.2);show(U.trans c0,S)
 let(_,N):=i.ma (pj n P x) h p K (by rw[c0];show C) c0.symm;have Z:=(i.ma h (pj n P x) K p C c0).2;have k:∀{w:Nat},Rc (lk n g D) (pj n P x) w->Rc (lk n g D) w (pj n P x)->∃z,A z/\pj n P z=w:=by
  intro w q;induction q with
  | here=>show λ_=>(x,(.here,.here),rfl)
  | @step a b O e Y=>
   intro G;let(z,c,j):=Y ((Rc.one e).trans G);let(d,v,o):=next z c;let((e1,L),e3,e4):=mem_lk.mp e;let((t,X),r,I):=mem_lk.mp v;have W:pj n P d∈g a:=by rw[<-j,<-s.over t];show Ar.mpr (d,r,rfl)
   have E:f a=f h:=by rw[<-j];show(l z c).1
   have fb:f b=f h:=(i.way (z:=0) p H s.cl (.step O e) G).1.trans c0;let(u,J):=i.su a e1 (by rw[E];show C);show(d,o,?_);rw[J _ W (by rw[(l d o).1,E]),J b e3 (by rw[fb,E])]
 let(z,c,j):=k N Z;have F:z<n+Ug P/\z∉h::D:=by
  cases c.1 with
  | here=>show(B,M)
  | step _ e=>let((t,X),r,I):=mem_lk.mp e;show(s.cl' t z r,I)
 have:z=h:=by
  by_cases hl:z<n
  .rw[pj_old hl] at j;show j
  .show absurd (j ▸ Qu 'o' F.1) λw=>(s.Pt h w).2 rfl
 show F.2 (by rw[this];show Aw)
def IK.plain(i:IK n g D f kd m)(s:Sp n g D T h P)(hk:kd (f h)= .pla):
  ∃f' kd' m',IK (n+Ug P) (nx n g T P) (h::D) f' kd' m'/\tot (n+Ug P) (h::D) f' kd' m'+1<=tot n D f kd m:=by
 let(hh,hD):=s.sc.lt h s.hT;have fh:=i.hf h hh;have few:=s.few i.cl;let f':Nat->Nat:=λx=>if x<n/\f x≠f h then f x else m+x;let kd':Nat->Kd:=λc=>if c<m/\c≠f h then kd c else .gen;have fo:∀{x:Nat},x<n->f x≠f h->f' x=f x:=fun{x} h1 h2=>ng (h1,h2);have fn:∀{x:Nat},¬(x<n/\f x≠f h)->f' x=m+x:=fun{x} h=>nc h;have back:∀{x:Nat},f' x<m->x<n/\f x≠f h/\f' x=f x:=fun{x} hl=>by
  by_cases e:x<n/\f x≠f h
  .exact(e.1,e.2,ng e)
  .rw[fn e] at hl;lia
 have ko:∀{c:Nat},c<m->c≠f h->kd' c=kd c:=fun{c} h1 h2=>ng (h1,h2);have kn:∀{c:Nat},¬(c<m/\c≠f h)->kd' c= .gen:=fun{c} h=>nc h;have pla:∀{c:Nat},kd' c≠ .gen->c<m/\c≠f h/\kd' c=kd c:=fun{c} hp=>by
  by_cases e:c<m/\c≠f h
  .exact(e.1,e.2,ng e)
  .show absurd (kn e) hp
 have copy:∀{x:Nat},x<n+Ug P->¬x<n->f (pj n P x)=f h:=fun{x} h1 h2=>i.tc s (s.Pt _ (Qu 'o' h1)).1;show(f',kd',m+(n+Ug P),(λx hx=>?_,λx y hx hy dx dy r1 r2=>?_,λx hx=>?_,λx y hx hy hp e=>?_,λx hx hp=>?_,λc hc hc2=>?_),?_)
 .by_cases e:x<n/\f x≠f h
  .change f' x<_;rw[fo e.1 e.2];have:=i.hf x e.1;lia
  .change f' x<_;rw[fn e];lia
 .have px:=s.pj_lt hx;have py:=s.pj_lt hy;have ec:=i.cl _ _ px py (s.nd' hx dx) (s.nd' hy dy) (s.down r1) (s.down r2);by_cases c0:f (pj n P x)=f h
  .rw[i.alone s hk hx dx c0 r1 r2]
  .have xn:x<n:=by
    by_cases e:x<n
    .show e
    .show absurd (copy hx e) c0
   have yn:y<n:=by
    by_cases e:y<n
    .show e
    .show absurd (ec.trans (copy hy e)) c0
   rw[pj_old xn] at ec c0;rw[pj_old yn] at ec;change f' x=f' y;rw[fo xn c0,fo yn (by rw[<-ec];show c0),ec]
 .rcases Ak.mp hx with rfl|hx
  .lia
  .have:=i.bl x hx;lia
 .let(c1,c2,c3):=pla (by rw[hp];show λz=>by cases z);let(b1,b2,b3):=back c1;rw[c3,b3] at hp;let(d1,d2,d3):=back (x:=y) (by rw[e];show c1);show i.keep s b1 d1 hp (by rw[<-d3,e,b3]) b2
 .let(c1,c2,c3):=pla (by rw[hp];show λz=>by cases z);let(b1,b2,b3):=back c1;rw[c3,b3] at hp;rw[b3];show i.keep2 s (λy hy e=>?_) b1 hp b2;let(d1,d2,d3):=back (x:=y) (by rw[e];show i.hf x b1);show(d1,d3)
 .let(c1,c2,c3):=pla (by rw[hc2];show λz=>by cases z);rw[c3] at hc2;let(y1,y2):=i.ze c c1 hc2;have n0:0<n:='o';show(λw=>?_,by rw[fo n0 (by rw[y2];show c2)];show y2);rcases Ak.mp w with w|w
  .show c2 (by rw[<-y2,w])
  .show y1 w
 .have key:=Cy (m:=m) (c:=f h) (a:=λc=>wk (kd' c) (cnt (n+Ug P) (h::D) f' c)) (b:=λc=>wk (kd c) (cnt n D f c)) fh λc hc hne=>by
   change wk (kd' c) _<=wk (kd c) _;rw[ko hc hne];have:cnt (n+Ug P) (h::D) f' c=cnt n D f c:=by
    rw[Vm,Vm,range_add,List.countP_append];have z:((Aj (Ug P)).map (n+·)).countP (λx=>decide (x∉h::D)&&decide (f' x=c))=0:=by rw[List.countP_eq_zero];intro x hx;let(j,_,rfl):=Ar.mp hx;rw[fn (x:=n+j) 'o'];erw[Bz9,decide_eq_true_eq,not_and];show λ_ z=>by lia
    rw[z,Nat.add_zero];show La λx hx=>?_;have xn:=Hj.mp hx;erw[Ak,not_or,Bz9,decide_eq_true_eq];constructor
    .rintro⟨⟨_,a⟩,b⟩;let(_,_,b3):=back (x:=x) (by rw[b];show hc);show(a,by rw[<-b3];show b)
    .rintro⟨a,b⟩;have n1:f x≠f h:=by rw[b];show hne
     show((λe=>n1 (by rw[e]),a),by rw[fo xn n1];show b)
   rw[this];show na _
  replace key:_+wk (kd (f h)) (cnt n D f (f h))<=_+wk (kd' (f h)) (cnt (n+Ug P) (h::D) f' (f h)):=key;have zero:cnt (n+Ug P) (h::D) f' (f h)=0:=by rw[Vm,List.countP_eq_zero];intro x _;erw[Bz9,decide_eq_true_eq,not_and];intro _ e;let(_,b2,b3):=back (x:=x) (by rw[e];show fh);show b2 (by rw[<-b3];show e)
  rw[kn (c:=f h) (λz=>z.2 rfl),zero,hk] at key;replace key:_+(2 * cnt n D f (f h) - 1)<=_+0:=key;have rest:((Aj (n+Ug P)).map λx=>wk (kd' (m+x)) (cnt (n+Ug P) (h::D) f' (m+x))).sum<=(cnt n D f (f h) - 1)+Ug P:=by
   have one:∀x,x<n+Ug P->wk (kd' (m+x)) (cnt (n+Ug P) (h::D) f' (m+x))<=if decide (x∉h::D)&&decide (¬(x<n/\f x≠f h)) then 1 else 0:=by
    intro x hx;rw[kn 'o'];have ef:∀y,f' y=m+x↔y=x/\¬(x<n/\f x≠f h):=λy=>by
     constructor
     .intro e;by_cases ey:y<n/\f y≠f h
      .rw[fo ey.1 ey.2] at e;have:=i.hf y ey.1;lia
      .rw[fn ey] at e;have:y=x:='o';subst this;show(rfl,ey)
     .rintro⟨rfl,e⟩;show fn e
    have:cnt (n+Ug P) (h::D) f' (m+x)<=if decide (x∉h::D)&&decide (¬(x<n/\f x≠f h)) then 1 else 0:=by
     by_cases e:x∉h::D/\¬(x<n/\f x≠f h)
     .rw[ng (by erw[Bz9,decide_eq_true_eq];show e)];ext cnt;have:((Aj (n+Ug P)).filter λy=>decide (y∉h::D)&&decide (f' y=m+x)).length<=[x].length:=by show Ay (Iq.filter _) λy hy=>?_;have:=(Di.mp hy).2;erw[Bz9,decide_eq_true_eq] at this;rw[((ef y).mp this.2).1];show Af.mpr rfl
      show this
     .rw[nc (by erw[Bz9,decide_eq_true_eq];show e)];ext cnt;show Nat.le_of_eq (Du.mpr (List.filter_eq_nil_iff.mpr λy _=>?_));erw[Bz9,decide_eq_true_eq,not_and];intro dy z;let(rfl,e2):=(ef y).mp z;show e (dy,e2)
    have b1:(if decide (x∉h::D)&&decide (¬(x<n/\f x≠f h)) then 1 else 0)<=1:=by split<;>lia
    change 2 ^ _ - 1<=_;generalize (if decide (x∉h::D)&&decide (¬(x<n/\f x≠f h)) then 1 else 0)=b at this b1 |-;generalize cnt (n+Ug P) (h::D) f' (m+x)=c at this |-;rcases(show c=0\/c=1 by lia) with rfl|rfl
    .show nk _
    .show this
   show ni (Pu one) ?_;have es:∀(l:LQ) (p:Nat->Bool),(l.map λx=>if p x then 1 else 0).sum=l.countP p:=by
    intro l p;induction l with
    | nil=>rfl
    | cons a l ih=>rw[Az,Lf,ih,List.countP_cons];lia
   rw[es,range_add,List.countP_append];have c1:(Aj n).countP (λx=>decide (x∉h::D)&&decide (¬(x<n/\f x≠f h)))<=cnt n D f (f h) - 1:=by
    rw[Vm n D f (f h),Q9 (p:=λx=>decide (x∉D)&&decide (f x=f h)) (h:=h) Iq (Hj.mpr hh) (by simp[hD]),Nat.add_sub_cancel];show Nat.le_of_eq (La λx hx=>?_);have xn:=Hj.mp hx;erw[Ak,not_or,Bz9,decide_eq_true_eq,Bool.not_eq_true',decide_eq_false_iff_not];constructor
    .rintro⟨⟨a,b⟩,d⟩;show((b,Lg λz=>d (xn,z)),a)
    .rintro⟨⟨b,d⟩,a⟩;show((a,b),λz=>z.2 d)
   have c2:((Aj (Ug P)).map (n+·)).countP (λx=>decide (x∉h::D)&&decide (¬(x<n/\f x≠f h)))<=Ug P:=ni List.countP_le_length 's';lia
  ext tot;rw[range_add m,As,Kf,Hw];have er:((Aj (n+Ug P)).map ((λc=>wk (kd' c) (cnt (n+Ug P) (h::D) f' c)) ∘ λx=>m+x)).sum=((Aj (n+Ug P)).map λx=>wk (kd' (m+x)) (cnt (n+Ug P) (h::D) f' (m+x))).sum:=rfl;rw[er];lia
def IK.step(i:IK n g D f kd m)(s:Sp n g D T h P)(hz:0∈T->h=0/\P=[]):
  ∃v c u,IK (n+Ug P) (nx n g T P) (h::D) v c u/\tot (n+Ug P) (h::D) v c u+1<=tot n D f kd m:=by
 let(G,J):=s.sc.lt h s.hT;have H:=i.hf h G;have q:=s.few i.cl;cases d:kd (f h) with
 | pla=>show i.plain s d
 | gen=>
  let(c,r):=i.up s (by rw[d];show λz=>by cases z) .gen (λz=>by cases z) (λz=>by cases z) (λ_=>rfl) (by
   rw[d];change 2 ^ (cnt n D f (f h) - 1) - 1+(2 ^ (Ug P) - 1)+1<=2 ^ cnt n D f (f h) - 1;generalize cnt n D f (f h)=k at q;obtain⟨b,rfl⟩:∃b,k=b+1:=(k - 1,'o');rw[Nat.add_sub_cancel];have A:2 ^ (Ug P)<=2 ^ b:=Nat.pow_le_pow_right 'o' 'o';have o:2 ^ (b+1)=2 * 2 ^ b:=by rw[Nat.pow_succ];lia
   have t:0<2 ^ (Ug P):=Nat.pow_pos 'o';rw[o];lia)
  show(_,c,_,r)
 | zer=>
  let(y,w):=i.ze (f h) H d;by_cases p:0∈T
  .let(K,I):=hz p;let(c,r):=i.up s (by rw[d];show λz=>by cases z) .gen (λz=>by cases z) (λz=>by cases z) (λ_=>rfl) (by
    rw[d,I];change 2 ^ (cnt n D f (f h) - 1) - 1+(2 ^ 0 - 1)+1<=2 ^ (cnt n D f (f h) - 1);have t:0<2 ^ (cnt n D f (f h) - 1):=Nat.pow_pos 'o';lia)
   show(_,c,_,r)
  .have F:h≠0:=λe=>p (e ▸ s.hT);have B:0<n:='o';have l:Ug P+2<=cnt n D f (f h):=by
    have a:(0::T).length<=cnt n D f (f h):=by
     ext cnt;show Ay (Hq.mpr (p,s.sc.nd)) λx j=>?_;rcases Ak.mp j with rfl|j
     .simp[B,y,w]
     .let(E,C):=s.sc.lt x j;simp[E,C,i.tc s j]
    have b:(h::P).length<=Ug T:=Ay (Hq.mpr (λz=>(s.Pt h z).2 rfl,s.Pn)) λx j=>by
     rcases Ak.mp j with rfl|j
     .show s.hT
     .exact(s.Pt x j).1
    erw[Dy] at a b;lia
   let(c,r):=i.up s (by rw[d];show λz=>by cases z) .zer (λz=>by cases z) (λ_=>(F,d)) (λz=>absurd d z) (by
    rw[d];change 2 ^ (cnt n D f (f h) - 1 - 1)+(2 ^ (Ug P) - 1)+1<=2 ^ (cnt n D f (f h) - 1);generalize cnt n D f (f h)=k at l;obtain⟨b,rfl⟩:∃b,k=b+2:=(k - 2,'o');rw[show b+2 - 1 - 1=b by lia,show b+2 - 1=b+1 by lia];have A:2 ^ (Ug P)<=2 ^ b:=Nat.pow_le_pow_right 'o' 'o';have o:2 ^ (b+1)=2 * 2 ^ b:=by rw[Nat.pow_succ];lia
    have t:0<2 ^ (Ug P):=Nat.pow_pos 'o';rw[o];lia)
   show(_,c,_,r)
end
def Yk6{n:Nat}{D D':LQ}(a:∀x,x∈D↔x∈D'):lk n g D=lk n g D':=by funext x;ext lk;erw[a]
def IK.perm{n m:Nat}{D D':LQ}{kd:Nat->Kd}(d:∀x,x∈D↔x∈D')(i:IK n g D f kd m):IK n g D' f kd m/\tot n D' f kd m=tot n D f kd m:=by
 have e:=Yk6 (n:=n) (g:=g) d;show((i.hf,λx y h j t s l k=>?_,λx h=>i.bl x ((d x).mpr h),λx y h j p q=>?_,i.su,λc r o=>?_),?_)
 .rw[<-e] at l k;show i.cl x y h j (λz=>t ((d x).mp z)) (λz=>s ((d y).mp z)) l k
 .let(a,b):=i.ma x y h j p q;rw[<-e];show(λz=>a ((d x).mpr z),b)
 .let(a,b):=i.ze c r o;show(λz=>a ((d 0).mpr z),b)
 .unfold tot cnt;erw[d]
end DB
namespace CN
open KS DB
def P1(g:Nat->LQ)(s y:Nat):Prop:=∃x,Rc g s x/\y∈g x
def mu(g:Nat->LQ)(x y:Nat):Prop:=Rc g x y/\Rc g y x
def exl{p:Nat->Prop}:∀{n:Nat},p n->∃r,p r/\∀y,p y->r<=y:=by
 intro n;induction n using Nat.strongRecOn with
 | _ n a=>
  intro h;by_cases e:∃m,m<n/\p m
  .let(m,d,c):=e;show a m d c
  .exact(n,h,λy b=>Nat.le_of_not_lt λz=>e (y,z,b))
def lst(g:Nat->LQ)(x:Nat):Nat:=Classical.choose (exl (p:=mu g x) (n:=x) (.here,.here))
section
variable{g:Nat->LQ}{n:Nat}
def Rb(x:Nat):mu g x (lst g x):=(Classical.choose_spec (exl (p:=mu g x) (n:=x) (.here,.here))).1
def Eh{x y:Nat}(h:mu g x y):lst g x<=y:=(Classical.choose_spec (exl (p:=mu g x) (n:=x) (.here,.here))).2 y h
def mu.symm{x y:Nat}(h:mu g x y):mu g y x:=(h.2,h.1)
def mu.trans{x y z:Nat}(h:mu g x y)(k:mu g y z):mu g x z:=(Rc.trans h.1 k.1,Rc.trans k.2 h.2)
def Zd4{x y:Nat}:lst g x=lst g y↔mu g x y:=by
 constructor
 .intro h;have a:=Rb (g:=g) x;rw[h] at a;show a.trans (Rb y).symm
 .intro h;show Nat.le_antisymm (Eh (h.trans (Rb y))) (Eh (h.symm.trans (Rb x)))
def lk_down{D:LQ}{x y:Nat}(h:Rc (lk n g D) x y):Rc g x y:=by
 induction h with
 | here=>show .here
 | step _ e a=>show .step a (mem_lk.mp e).2.1
def lk_up(f:∀x,x<n->∀y∈g x,y<n){x y:Nat}(d:x<n)(h:Rc g x y):y<n/\Rc (lk n g []) x y:=by
 induction h with
 | here=>show(d,.here)
 | @step a b _ e c=>show(f a c.1 b e,.step c.2 (mem_lk.mpr ((c.1,by simp),e,by simp)))
def ik(cl:∀x,x<n->∀y∈g x,y<n){kd:Nat->Kd}(hz:∀c,kd c≠ .zer)(su:∀x,x<n->kd (lst g x)= .pla->∃s,∀y∈g x,lst g y=lst g x->y=s):IK n g [] (lst g) kd n where
 hf:=λx hx=>Nat.lt_of_le_of_lt (Eh (.here,.here)) hx
 cl:=λx y hx hy _ _ r1 r2=>Zd4.mpr (lk_down r1,lk_down r2)
 bl:=λx hx=>by cases hx
 ma:=λx y hx hy _ e=>(by simp,(lk_up cl hx (Zd4.mp e).2).2)
 su:=su
 ze:=λc _ h=>absurd h (hz c)
def plain(g:Nat->LQ)(c:Nat):Prop:=(∃x,P1 g c x/\P1 g x c)/\∀x,lst g x=c->∃s∈g x,lst g s=c/\∀y∈g x,lst g y=c->y=s
open Classical in
def kd(g:Nat->LQ)(c:Nat):Kd:=if plain g c then .pla else .gen
def Yu3(c:Nat):kd g c≠ .zer:=by ext kd;split<;>show λh=>Kd.noConfusion h
def upto(g:Nat->LQ)(n i:Nat):Nat:=tot n [] (lst g) (kd g) i
def Qm(i:Nat):upto g n (i+1)=upto g n i+wk (kd g i) (cnt n [] (lst g) i):=by unfold upto tot;rw[Kl,As,Kf];simp
def count_ik(c:∀x,x<n->∀y∈g x,y<n):IK n g [] (lst g) (kd g) n:=
 ik c Yu3 λx d h=>by
  have a:plain g (lst g x):=by
   ext h kd;split at h
   .assumption
   .cases h
  let(s,_,_,b):=a.2 x rfl;show(s,b)
def P1.rc{x y:Nat}(h:P1 g x y):Rc g x y:=by let(z,r,e):=h;show .step r e
def P1.of_mu{x y z:Nat}(h:P1 g x y)(k:Rc g y z):P1 g x z\/y=z:=by
 cases k with
 | here=>show .inr rfl
 | @step a b r e=>show .inl (a,h.rc.trans r,e)
def P1.trans{x y z:Nat}(h:P1 g x y)(k:Rc g y z):P1 g x z:=by
 rcases h.of_mu k with w|rfl
 .show w
 .show h
def P1.ahead{x y z:Nat}(h:Rc g x y)(k:P1 g y z):P1 g x z:=by let(w,r,e):=k;show(w,Rc.trans h r,e)
def P1.lt(b:∀x,x<n->∀y∈g x,y<n){x y:Nat}(a:x<n)(h:P1 g x y):y<n:=(lk_up b a h.rc).1
def Nu{i x:Nat}:x∈(Aj n).filter (λx=>decide (x∉([]:LQ))&&decide (lst g x=i))↔x<n/\lst g x=i:=by simp
def placed{i k:Nat}(d:k<i)(c:Rc g k i)(b:Rc g i k):upto g n (i+1)=upto g n i:=by
 rw[Qm];have:cnt n [] (lst g) i=0:=by ext cnt;rw[Du,List.eq_nil_iff_forall_not_mem];intro x a;let(_,e):=Nu.mp a;have m:=Rb (g:=g) x;rw[e] at m;have:=Eh (m.trans (z:=k) (b,c));lia
 rw[this];ext kd;split<;>rfl
section
variable{i:Nat}(hi:i<n)(cl:∀x,x<n->∀y∈g x,y<n)(np:∀k,k<i->¬(P1 g k i/\P1 g i k))
include np
theorem own:lst g i=i:=by
 have m:=Rb (g:=g) i;have l:=Eh (g:=g) (x:=i) (y:=i) (.here,.here);by_cases e:lst g i=i
 .show e
 .exfalso;have a:lst g i<i:='o';show np _ a (?_,?_)
  .have:=m.2;generalize lst g i=j at this a;cases this with
   | here=>lia
   | step r e=>show(_,r,e)
  .have:=m.1;generalize lst g i=j at this a;cases this with
   | here=>lia
   | step r e=>show(_,r,e)
include hi cl
theorem alone(none:∀x,¬(P1 g i x/\P1 g x i)):upto g n (i+1)=upto g n i+1:=by
 rw[Qm];have c:cnt n [] (lst g) i=1:=by
  ext cnt;have:∀x,x∈(Aj n).filter (λx=>decide (x∉([]:LQ))&&decide (lst g x=i))↔x∈[i]:=λx=>by
   rw[Nu,Af];have:lst g x=i↔x=i:=by
    constructor
    .intro e;have m:=Rb (g:=g) x;rw[e] at m;apply Lg;intro b;show none x (?_,?_)
     .cases m.2 with
      | here=>show absurd rfl b
      | step r e=>show(_,r,e)
     .cases m.1 with
      | here=>show absurd rfl b
      | step r e=>show(_,r,e)
    .rintro rfl;show own np
   rw[this];show(λz=>z.2,λz=>(z ▸ hi,z))
  show Nat.le_antisymm (Ay (Iq.filter _) λx a=>(this x).mp a) (Ay (l₁:=[i]) 's' λx a=>(this x).mpr a)
 rw[c];ext kd;split<;>rfl
theorem some_{S:LQ}(v:S.Nodup)(j:∀x,x∈S↔P1 g i x/\P1 g x i)(u:S≠[]):
  ((∀x∈S,∃s∈g x,s∈S/\∀y∈g x,y∈S->y=s)->upto g n (i+1)=upto g n i+(2 * (Ug S) - 1))/\(¬(∀x∈S,∃s∈g x,s∈S/\∀y∈g x,y∈S->y=s)->upto g n (i+1)=upto g n i+(2 ^ (Ug S) - 1)):=by
 let(z,w):=List.exists_mem_of_ne_nil S u;let(p,o):=(j z).mp w;have r:P1 g i i:=p.trans o.rc;have t:=own np;have d:∀x,x∈S↔lst g x=i:=by
  intro x;rw[j];constructor
  .rintro⟨a,b⟩;have:=(Zd4 (g:=g)).mpr (b.rc,a.rc);rw[this,t]
  .intro e;have m:=Rb (g:=g) x;rw[e] at m;show(r.trans m.2,P1.ahead m.1 r)
 have A:cnt n [] (lst g) i=Ug S:=by ext cnt;show Nat.le_antisymm (Ay (Iq.filter _) λx f=>(d x).mpr (Nu.mp f).2) (Ay v λx f=>Nu.mpr (((j x).mp f).1.lt cl hi,(d x).mp f))
 have q:plain g i↔∀x∈S,∃s∈g x,s∈S/\∀y∈g x,y∈S->y=s:=by
  constructor
  .rintro⟨_,h⟩ x f;let(s,a,b,c):=h x ((d x).mp f);show(s,a,(d s).mpr b,λy l k=>c y l ((d y).mp k))
  .intro h;show((z,p,o),λx f=>?_);let(s,a,b,c):=h x ((d x).mpr f);show(s,a,(d s).mp b,λy l k=>c y l ((d y).mpr k))
 rw[Qm,A];ext kd;constructor
 .intro h;rw[ng (q.mpr h)];rfl
 .intro h;rw[nc (λz=>h (q.mp z))];rfl
end
end
def rc_congr(e:∀x y,y∈g x->y∈g' x){x y:Nat}(h:Rc g x y):Rc g' x y:=by
 induction h with
 | here=>show .here
 | step _ k a=>show .step a (e _ _ k)
def few{n:Nat}:IK n g [] (λ_=>0) (λ_=> .zer) 1/\tot n [] (λ_=>0) (λ_=>Kd.zer) 1<=2 ^ (n - 1):=by
 show((λ_ _=>Nat.one_pos,λ_ _ _ _ _ _ _ _=>rfl,λx a=>absurd a 's',λ_ _ _ _ h=>Kd.noConfusion h,λ_ _ h=>Kd.noConfusion h,λc b _=>(by simp,show 0=c by lia)),?_);ext tot;rw[List.range_one,Az,Dh,Lf,Mf,Nat.add_zero];change 2 ^ (cnt n [] (λ_=>0) 0 - 1)<=_;show Nat.pow_le_pow_right 'o' ?_;have:cnt n [] (λ_=>0) 0<=n:=by ext cnt;show ni (Ha _ _) ?_;rw[Kj];show na _
 lia
end CN
namespace RQ
open KS DB
structure Ring(h:Nat->LQ)(a s e:Nat):Prop where
 two:2<=s
 nx:∀x,x<a->x+1∈h x
 fw:∀x,x<a->∀y∈h x,x<y
 d1:a+1∈h a
 d2:a+1+e∈h a
 e1:1<=e
 e2:e<s
 da:∀y∈h a,a<y
 rg:∀k,k<s->a+1+(k+1) % s∈h (a+1+k)
 ro:∀k,k<s->∀y∈h (a+1+k),y=a+1+(k+1) % s\/y=a+1+s
 bh:∀x,a+s<x->∀y∈h x,x<y
def fr(a s x:Nat):Nat:=if a<x/\x<=a+s then a+1 else x
section
variable{h:Nat->LQ}{a s e N:Nat}{O:LQ}
def Ring.edge(r:Ring h a s e){x y:Nat}(k:y∈h x):fr a s x<=fr a s y/\((x<=a\/a+s<x)->fr a s x<fr a s y):=by
 have t:=r.two;ext fr;by_cases b:x<=a\/a+s<x
 .have:x<y:=by
   rcases b with b|b
   .by_cases c:x=a
    .subst c;show r.da y k
    .show r.fw x 'o' y k
   .show r.bh x b y k
  rw[nc 'o'];split<;>lia
 .obtain⟨j,rfl⟩:∃j,x=a+1+j:=(x - (a+1),'o');rw[ng 'o'];show(?_,λz=>absurd z b);have m:(j+1) % s<s:=Nat.mod_lt _ 'o';rcases r.ro j 'o' y k with rfl|rfl
  .rw[ng 'o'];lia
  .rw[nc 'o'];lia
def Ring.mono(r:Ring h a s e){x y:Nat}(k:Rc h x y):fr a s x<=fr a s y/\(x=y\/((x<=a\/a+s<x)->fr a s x<fr a s y)):=by
 induction k with
 | here=>show(na _,.inl rfl)
 | @step b c _ e f=>
  let(j,g):=r.edge e;let(i,d):=f;show('o',.inr λz=>?_);rcases d with rfl|d
  .show g z
  .have:=d z;lia
def Ring.both(r:Ring h a s e){x y:Nat}(k:Rc h x y)(l:Rc h y x):x=y\/((a<x/\x<=a+s)/\a<y/\y<=a+s):=by
 let(i,c):=r.mono k;let(g,b):=r.mono l;by_cases e:x=y
 .show .inl e
 .right;have c:=c.resolve_left e;have b:=b.resolve_left λz=>e z.symm;by_cases f:x<=a\/a+s<x
  .have:=c f;lia
  .by_cases d:y<=a\/a+s<y
   .have:=b d;lia
   .lia
def Ring.on(r:Ring h a s e)(c:j<s)(t:Nat):Rc h (a+1+j) (a+1+(j+t) % s):=by
 have p:=r.two;induction t with
 | zero=>rw[show(j+0) % s=j from Nat.mod_eq_of_lt c];show .here
 | succ t b=>have:=r.rg ((j+t) % s) (Nat.mod_lt _ 'o');rw[Nat.mod_add_mod] at this;show .step b this
def Ring.ring(r:Ring h a s e){x y:Nat}(c:a<x/\x<=a+s)(b:a<y/\y<=a+s):Rc h x y:=by obtain⟨j,rfl⟩:∃j,x=a+1+j:=(x - (a+1),'o');obtain⟨k,rfl⟩:∃k,y=a+1+k:=(y - (a+1),'o');have:=r.on (j:=j) 'o' (s - j+k);rwa[show j+(s - j+k)=s+k by lia,Nat.add_mod_left,Nat.mod_eq_of_lt 'o'] at this
abbrev tu(O:LQ)(i:Nat):Nat:=O.getD i 0
def Z18{i:Nat}(hi:i<Ug O):tu O i∈O/\O[i]?=some (tu O i):=by
 have:O[i]?=some (tu O i):=by ext tu;rw[Ad,Aa hi];rfl
 show(Am this,this)
def Ef{x:Nat}(b:x∈O):O.idxOf x<Ug O/\tu O (O.idxOf x)=x:=by have l:=Dn b;show(l,?_);ext tu;rw[Ad,Aa l,Ki,Ih]
def Ev(b:O.Nodup){i:Nat}(hi:i<Ug O):O.idxOf (tu O i)=i:=by ext tu;rw[Ad,Aa hi,Ki];show ND.Yq b hi
def dn(o:GT.Ord h N O){i y:Nat}(hi:i<Ug O)(k:y∈GT.X3 h O i):y<Ug O/\tu O y∈h (tu O i):=by ext k GT.X3;rw[(Z18 hi).2] at k;let(t,b,rfl):=Ar.mp k;have c:=o.cl _ (Z18 hi).1 t b;let(f,d):=Ef c;show(f,by rw[d];show b)
def up(o:GT.Ord h N O){x t:Nat}(b:x∈O)(k:t∈h x):t∈O/\O.idxOf t∈GT.X3 h O (O.idxOf x):=by show(o.cl x b t k,?_);let(d,c):=Ef b;ext GT.X3;rw[(Z18 d).2,c];show Ar.mpr (t,k,rfl)
def rdn(o:GT.Ord h N O){i y:Nat}(hi:i<Ug O)(k:Rc (GT.X3 h O) i y):y<Ug O/\Rc h (tu O i) (tu O y):=by
 induction k with
 | here=>show(hi,.here)
 | step _ e b=>let(d,c):=dn o b.1 e;show(d,.step b.2 c)
def rup(o:GT.Ord h N O){x t:Nat}(c:x∈O)(k:Rc h x t):t∈O/\Rc (GT.X3 h O) (O.idxOf x) (O.idxOf t):=by
 induction k with
 | here=>show(c,.here)
 | step _ e b=>let(f,d):=up o b.1 e;show(f,.step b.2 d)
def Ring.all(r:Ring h a s e)(o:GT.Ord h N O){x:Nat}(f:x<=a+s):x∈O:=by
 have b:∀x,x<=a->x∈O:=by
  intro x;induction x with
  | zero=>show λ_=>Am o.z
  | succ x c=>show λl=>o.cl x (c 'o') _ (r.nx x 'o')
 by_cases e:x<=a
 .show b x e
 .have d:=o.cl a (b a (na _)) _ r.d1;have:=r.two;show(rup o d (r.ring (x:=a+1) (y:=x) 'o' 'o')).1
def isR(a s x:Nat):Bool:=decide (a<x)&&decide (x<=a+s)
def Pa{x:Nat}:isR a s x=true↔a<x/\x<=a+s:=by ext isR;simp
def rT(a s:Nat)(O:LQ):LQ:=(Aj (Ug O)).filter λi=>isR a s (tu O i)
def Yj{i:Nat}:i∈rT a s O↔i<Ug O/\a<tu O i/\tu O i<=a+s:=by ext rT;rw[Di,Hj,Pa]
def Yp3(c:O.Nodup):(rT a s O).length<=s:=by
 have:((rT a s O).map λi=>tu O i - (a+1)).Nodup:=by rw[List.nodup_iff_pairwise_ne,List.pairwise_map];show(Iq.filter _:(rT a s O).Nodup).imp_of_mem fun{i j} b n f z=>f ?_;let(d,l,k):=Yj.mp b;let(g,p,o):=Yj.mp n;have:tu O i=tu O j:='o';have:=congrArg O.idxOf this;rwa[Ev c d,Ev c g] at this
 have:=ND.Zu s _ this λx m=>by let(i,b,rfl):=Ar.mp m;let(d,l,k):=Yj.mp b;lia
 rwa[Ai] at this
def Ring.mut(r:Ring h a s e)(o:GT.Ord h N O){i j:Nat}(hi:i∈rT a s O)(l:j∈rT a s O):Rc (lk (Ug O) (GT.X3 h O) []) i j:=by let(b,k,g):=Yj.mp hi;let(f,d,c):=Yj.mp l;have:=(rup o (Z18 b).1 (r.ring (k,g) (d,c))).2;rw[Ev o.nd b,Ev o.nd f] at this;show(CN.lk_up o.num.cl b this).2
def Ring.cl2(r:Ring h a s e)(o:GT.Ord h N O){i j:Nat}(hi:i<Ug O)(b:j<Ug O)(k:Rc (lk (Ug O) (GT.X3 h O) []) i j)(l:Rc (lk (Ug O) (GT.X3 h O) []) j i):i=j\/(i∈rT a s O/\j∈rT a s O):=by
 have d:=(rdn o hi (CN.lk_down k)).2;have c:=(rdn o b (CN.lk_down l)).2;rcases r.both d c with z|⟨z1,z2⟩
 .refine .inl ?_;have:=congrArg O.idxOf z;rwa[Ev o.nd hi,Ev o.nd b] at this
 .show .inr (Yj.mpr (hi,z1),Yj.mpr (b,z2))
def Ring.scc(r:Ring h a s e)(o:GT.Ord h N O):Scc (Ug O) (GT.X3 h O) [] (rT a s O) where
 nd:=Iq.filter _
 lt:=λt b=>((Yj.mp b).1,by simp)
 two:=by
  have t:=r.two;have f:=r.all o (x:=a+1) 'o';have d:=r.all o (x:=a+2) 'o';let(n,m):=Ef f;let(j,i):=Ef d;have:([O.idxOf (a+1),O.idxOf (a+2)]).length<=(rT a s O).length:=Ay (by
   have:O.idxOf (a+1)≠O.idxOf (a+2):=λz=>by have:=congrArg (tu O) z;rw[m,i] at this;lia
   simpa using this) λx c=>by
    erw[Ak,Hf,or_false] at c;rcases c with rfl|rfl
    .show Yj.mpr (n,'o','o')
    .show Yj.mpr (j,'o','o')
  simpa using this
 mu:=λt b u g=>r.mut o b g
 all:=λt b x c _ k l=>by
  rcases r.cl2 o (Yj.mp b).1 c k l with z|z
  .show z ▸ b
  .show z.2
def reach{n:Nat}(N:GT.Num g n):∀x,x<n->Rc g 0 x:=by
 intro x;induction x using Nat.strongRecOn with
 | _ x b=>
  intro c;by_cases e:x=0
  .subst e;show .here
  .let(p,d,f):=N.up x c e;show .step (b p d 'o') f
def Ring.strange(r:Ring h a s e)(o:GT.Ord h N O):¬OD.Ord (Ug O) (GT.X3 h O):=by
 intro f;have t:=r.two;have B:=r.e1;have A:=r.e2;let(w,q,only,_):=OD.one_door o.num.cl f (OD.OI.begin o.num.pos (reach o.num)) (r.scc o);have c:=r.all o (x:=a) 'o';let(n,D):=Ef c;have d:O.idxOf a∉rT a s O:=λz=>by let(_,p,_):=Yj.mp z;lia
 have b:∀y,y∈h a->a<y->y<=a+s->O.idxOf y=w:=λy j v u=>by let(m,l):=up o c j;let(k,C):=Ef m;show only _ n d _ l (Yj.mpr (k,'o','o'))
 have i:=b _ r.d1 'o' 'o';have g:=b _ r.d2 'o' 'o';have:=congrArg (tu O) (i.trans g.symm);rw[(Ef (r.all o (x:=a+1) 'o')).2,(Ef (r.all o (x:=a+1+e) 'o')).2] at this;lia
def fR(a s:Nat)(O:LQ)(i:Nat):Nat:=if isR a s (tu O i) then (Ug O) else i
def kR(n c:Nat):Kd:=if c=n then .pla else .gen
def Ring.ik(r:Ring h a s e)(o:GT.Ord h N O):IK (Ug O) (GT.X3 h O) [] (fR a s O) (kR (Ug O)) (Ug O+1) where
 hf:=λx d=>by ext fR;split<;>lia
 cl:=λx y d i _ _ k l=>by
  rcases r.cl2 o d i k l with z|⟨z1,z2⟩
  .rw[z]
  .unfold fR;rw[ng (Pa.mpr (Yj.mp z1).2),ng (Pa.mpr (Yj.mp z2).2)]
 bl:=λx d=>by cases d
 ma:=λx y d i g m=>by
  have b:∀z,z<Ug O->fR a s O z=Ug O->z∈rT a s O:=λz f e=>by
   ext e fR;split at e
   .rename_i w;show Yj.mpr (f,Pa.mp w)
   .lia
  have j:fR a s O x=Ug O:=by
   ext g kR;split at g
   .assumption
   .cases g
  show(by simp,r.mut o (b x d j) (b y i (m.trans j)))
 su:=λx d g=>by
  have j:fR a s O x=Ug O:=by
   ext g kR;split at g
   .assumption
   .cases g
  have b:∀z,z<Ug O->fR a s O z=Ug O->z∈rT a s O:=λz f e=>by
   ext e fR;split at e
   .rename_i w;show Yj.mpr (f,Pa.mp w)
   .lia
  let(A,v,u):=Yj.mp (b x d j);show(O.idxOf (a+1+(tu O x - (a+1)+1) % s),λy i m=>?_);let(n,p):=dn o d i;let(_,t,q):=Yj.mp (b y n (m.trans j));have:=r.ro (tu O x - (a+1)) 'o' (tu O y) (by rw[show a+1+(tu O x - (a+1))=tu O x by lia];show p);rcases this with z|z
  .rw[<-z,Ev o.nd n]
  .lia
 ze:=λc _ f=>by ext f kR;split at f<;>cases f
def Y43{c:Nat}(i:c<Ug O):wk (kR (Ug O) c) (cnt (Ug O) [] (fR a s O) c)<=if isR a s (tu O c) then 0 else 1:=by
 have e:kR (Ug O) c= .gen:=nc 'o';rw[e];have f:cnt (Ug O) [] (fR a s O) c<=if isR a s (tu O c) then 0 else 1:=by
  ext cnt;have b:∀x,x∈(Aj (Ug O)).filter (λx=>decide (x∉([]:LQ))&&decide (fR a s O x=c))->x=c/\isR a s (tu O c)=false:=by
   intro x d;have:x<Ug O/\fR a s O x=c:=by simpa using d
   let(j,g):=this;ext g fR;split at g
   .lia
   .rename_i w;subst g;show(rfl,↥w)
  by_cases w:isR a s (tu O c)=true
  .rw[ng w];show Nat.le_of_eq (Du.mpr (List.eq_nil_iff_forall_not_mem.mpr λx d=>?_));have:=(b x d).2;rw[w] at this;cases this
  .rw[nc w];show Ay (l₂:=[c]) (Iq.filter _) λx d=>by rw[(b x d).1];simp
 change 2 ^ _ - 1<=_;revert f;split
 .intro f;have:cnt (Ug O) [] (fR a s O) c=0:='o';rw[this];show na _
 .intro f;have:2 ^ cnt (Ug O) [] (fR a s O) c<=2 ^ 1:=Nat.pow_le_pow_right 'o' f;lia
def Yb5(p:Nat->Bool)(n:Nat):((Aj n).map λc=>if p c then 0 else 1).sum+((Aj n).filter p).length=n:=by
 induction n with
 | zero=>rfl
 | succ n b=>
  rw[Kl,As,Kf,Lp,Ag];by_cases e:p n=true
  .simp[e];lia
  .simp[e];lia
def Ring.tot(r:Ring h a s e)(o:GT.Ord h N O):tot (Ug O) [] (fR a s O) (kR (Ug O)) (Ug O+1)<=Ug O+s - 1:=by
 ext DB.tot;rw[Kl,As,Kf];have d:cnt (Ug O) [] (fR a s O) (Ug O)=(rT a s O).length:=by
  unfold cnt rT;congr 1;show List.filter_congr λx i=>?_;have:=Hj.mp i;ext fR;by_cases w:isR a s (tu O x)=true
  .rw[w];simp
  .simp[w];lia
 have g:=Pu (m:=Ug O) (a:=λc=>wk (kR (Ug O) c) (cnt (Ug O) [] (fR a s O) c)) (b:=λc=>if isR a s (tu O c) then 0 else 1) λc j=>Y43 j;have f:=Yb5 (λc=>isR a s (tu O c)) (Ug O);have e:kR (Ug O) (Ug O)= .pla:=ng rfl;erw[Az,Dh,Lf,Mf,Nat.add_zero];rw[d,e];have l:=Yp3 (a:=a) (s:=s) o.nd;have k:=(r.scc o).two;have:((Aj (Ug O)).filter λc=>isR a s (tu O c)).length=(rT a s O).length:=rfl;rw[this] at f;change _+(2 * (rT a s O).length - 1)<=_;lia
end
end RQ
namespace K41
open PySem PySem.Spec PyProof.Rows L2 L3 U
variable{K:Ae}
abbrev Rd(K:Ae)(Γ:List DSp)(G:LD)(sp:DSp)(b:Ss)(N:LS):Prop:=∀ds M Q Z,sp ds M Q Z->tss (K,Γ,G) noX b {nx:=λ_ M=>Q .non M,rt:=Q} (start0 N ds) M
def FN:LS:="ways"::"with_ways"::"walked"::"numbered"::"links_among"::"turned"::"come_to"::"set_left"::"doors_of"::"come_round"::"chosen_head"::"led_to_copies"::"put_copies"::"doubled"::"_law_cell"::"_law_mixed"::"_law_great"::"_law_far"::"_law_node"::"_law_goals"::"_law_order"::"_law_graph"::"_law_drawn"::"_law_alike"::"_law_free"::"_law_is_orderly"::"_law_cut"::"_law_is_like"::"_law_reach"::"_law_is_made"::"_law_fits"::"_law_doubled"::"_law_set_counts"::"_law_count"::"_law_ring_node"::"_law_ringed"::"law"::[]
def GN:LS:=["JumpError","TooGreat","MOST_NODES"]
def BN:LS:=["tuple","list","dict","enumerate","len","sorted","range","min","max","isinstance","str","int","bool","set"]
abbrev Yh8:Stmt:=top 4
def Y32:LS:=["node"]
section
local macro_rules | `(#[$x,*])=>do
 let mut r<-`(.nil)
 for y in x.getElems.reverse do r<-`(.cons $(<-tmI y) $r)
 return r
local macro_rules | `($a :: $b)=>do `(.cons $(<-tmI a) $b)
local macro_rules | `($a[$i])=>do `(.ix $(<-tmI a) $(<-tmI i))
local macro_rules | `($a + $b)=>do `(.bin .add $(<-tmI a) $(<-tmI b))
local macro_rules | `($a - $b)=>do `(.bin .sub $(<-tmI a) $(<-tmI b))
local macro_rules | `($a * $b)=>do `(.bin .mul $(<-tmI a) $(<-tmI b))
local macro_rules | `($a / $b)=>do `(.bin .fdiv $(<-tmI a) $(<-tmI b))
local macro_rules | `($a % $b)=>do `(.bin .mod $(<-tmI a) $(<-tmI b))
local macro_rules | `($a == $b)=>do `(.cmp .eq $(<-tmI a) $(<-tmI b))
local macro_rules | `($a != $b)=>do `(.cmp .ne $(<-tmI a) $(<-tmI b))
local macro_rules | `($a < $b)=>do `(.cmp .lt $(<-tmI a) $(<-tmI b))
local macro_rules | `($a > $b)=>do `(.cmp .gt $(<-tmI a) $(<-tmI b))
local macro_rules | `($a ∈ $b)=>do `(.cmp .isin $(<-tmI a) $(<-tmI b))
noncomputable def Jt:Ss:=#[.ret (.tup .nil)]
def Q1:Ss:=(.ite (v0[0]=="test") #[.ret (.tup #[v0[4],v0[5]])] .nil)::Jt
def Y36:Ss:=(.ite (v0[0]=="sum") #[.ret (.tup #[v0[5]])] .nil)::Q1
abbrev C5:Stmt:=top 5
def Qz:LS:=["node","goals"]
def W9:Ss:=#[.ret (.var 0)]
def X6:Ss:=(.ite (v0[0]=="test") #[.ret ((.sl (.var 0) .no (.yes (.int 4)))+(.bf .tuple1 #[v1]))] .nil)::W9
def Qk:Ss:=(.ite (v0[0]=="sum") #[.ret ((.sl (.var 0) .no (.yes (.int 5)))+(.bf .tuple1 #[v1]))] .nil)::X6
abbrev Zw0:Stmt:=top 6
def Z11:LS:=["goals","starts","begun","finished","start","opened","place","left","goal"]
def Oe:Ss:=#[.expr (.mt .reverse (.var 3) .nil),.ret (.var 3)]
def R7:Ss:=#[.set [6,7] v5[.neg (.int 1)],.ite (v7==(.lst .nil)) #[.expr (.mt .append (.var 3) #[v6]),.expr (.mt .pop0 (.var 5) .nil)] #[.set [8] (.mt .pop0 (.var 7) .nil),.ite (.cmp .notin (.var 8) (.var 2)) #[.put (.var 2) (.var 8) (.bl true),.expr (.mt .append (.var 5) #[.tup #[v8,.bf .list1 #[v0[v8]]]])] .nil]]
def Se:Ss:=#[.while_ (.var 5) R7]
def O1:Ss:=(.set [5] (.lst .nil))::(.ite (.cmp .notin (.var 4) (.var 2)) #[.put (.var 2) (.var 4) (.bl true),.expr (.mt .append (.var 5) #[.tup #[v4,.bf .list1 #[v0[v4]]]])] .nil)::Se
def Z19:Ss:=(.set [2] .dict0)::(.set [3] (.lst .nil))::(.for_ [4] (.seq (.var 1)) O1)::Oe
abbrev Z90:Stmt:=top 7
def Oq:LS:=["nodes","order","numbers"]
def O3:Ss:=#[.set [2] (.bf .dict1 #[.comp ["number","place"] [none,none] [0,1] (.enm (.var 1)) .no (.tup #[v1,v0])]),.ret (.comp ["place","nodes","numbers"] [none,some 0,some 2] [0] (.seq (.var 1)) .no (.call 1 #[v1[v0],.comp ["goal","numbers"] [none,some 2] [0] (.seq (.call 0 #[v1[v0]])) .no v1[v0]]))]
abbrev Jl:Stmt:=top 11
def To:LS:=["goals","places","among"]
def Tg:Ss:=#[.set [2] (.bf .dict1 #[.comp ["place"] [none] [0] (.seq (.var 1)) .no (.tup #[v0,.bl true])]),.ret (.bf .dict1 #[.comp ["place","goals","among"] [none,some 0,some 2] [0] (.seq (.var 1)) .no (.tup #[v0,.comp ["goal","among"] [none,some 2] [0] (.seq v1[v0]) (.yes (v0∈v1)) (.var 0)])])]
abbrev Zs0:Stmt:=top 12
def B8:LS:=["links","froms","place","goal"]
def Sn:Ss:=#[.ret (.var 1)]
def Oa:Ss:=#[.expr (.mt .append v1[v3] #[v2])]
def Sz:Ss:=#[.for_ [3] (.seq v0[v2]) Oa]
def Z14:Ss:=(.set [1] (.bf .dict1 #[.compK ["place"] [none] [0] (.var 0) (.tup #[v0,.lst .nil])]))::(.forK [2] (.var 0) Sz)::Sn
abbrev Zi4:Stmt:=top 13
def Fg:LS:=["links","starts","taken","told","left","place"]
def Qo:Ss:=#[.ret (.var 3)]
def Pc:Ss:=#[.set [5] (.mt .pop0 (.var 4) .nil),.ite (.cmp .notin (.var 5) (.var 2)) #[.put (.var 2) (.var 5) (.bl true),.expr (.mt .append (.var 3) #[v5]),.expr (.mt .extend (.var 4) #[v0[v5]])] .nil]
def Ei:Ss:=(.set [3] (.lst .nil))::(.set [4] (.bf .list1 #[v1]))::(.while_ (v4 !=(.lst .nil)) Pc)::Qo
abbrev Z84:Stmt:=top 10
def Nb:LS:=["goals","done","links","froms","taken","place","together"]
def Rj:Ss:=#[.ret .non]
def Ro:Ss:=#[.set [6] (.call 6 #[v3,.lst #[v5],v4]),.ite ((.bf .len #[v6])>1) #[.ret (.bf .sortedL #[v6])] .nil]
def Ni:Ss:=(.set [2] (.call 4 #[v0,.comp ["place","done"] [none,some 1] [0] (.rng1 (.bf .len #[v0])) (.yes (.cmp .notin (.var 0) (.var 1))) (.var 0)]))::(.set [3] (.call 5 #[v2]))::(.set [4] .dict0)::(.for_ [5] (.seq (.call 2 #[v2,.lkeys (.var 2)])) Ro)::Rj
abbrev Za6:Stmt:=top 14
def Py:LS:=["goals","together","within","reached","place","goal"]
def Rx:Ss:=#[.ret (.comp ["place","reached"] [none,some 3] [0] (.seq (.var 1)) (.yes (v0∈v1)) (.var 0))]
def Ra:Ss:=#[.put (.var 3) (.var 5) (.bl true)]
def Rv:Ss:=#[.ite (.cmp .notin (.var 4) (.var 2)) #[.for_ [5] (.seq v0[v4]) Ra] .nil]
def O7:Ss:=(.set [2] (.bf .dict1 #[.comp ["place"] [none] [0] (.seq (.var 1)) .no (.tup #[v0,.bl true])]))::(.set [3] (.dct (.int 0) (.bl true)))::(.for_ [4] (.rng1 (.bf .len #[v0])) Rv)::Rx
abbrev Ff:Stmt:=top 18
def Rl:LS:=["goals","together","doors","head","others"]
def Ri:Ss:=#[.set [4] (.comp ["place","head"] [none,some 3] [0] (.seq (.var 1)) (.yes (v0 !=v1)) (.var 0)),.ret (.call 6 #[.call 4 #[v0,v4],.comp ["door","head"] [none,some 3] [0] (.seq (.var 2)) (.yes (v0 !=v1)) (.var 0),.dict0])]
abbrev Nv:Stmt:=top 17
abbrev Qc:Stmt:=top 20
def Wv:LS:=["places","copies"]
def Wm:Ss:=#[.ret (.bf .tuple1 #[.comp ["place","copies"] [none,some 1] [0] (.seq (.var 0)) .no (.mt .get2 (.var 1) #[v0,v0])])]
abbrev Gw:Stmt:=top 19
def Rq:LS:=["goals","origins","together","places","copies","copied","place"]
def Vn:Ss:=#[.expr (.mt .extend (.var 0) #[v5]),.expr (.mt .extend (.var 1) #[.comp ["place","origins"] [none,some 1] [0] (.seq (.var 3)) .no v1[v0]])]
def Vk:Ss:=#[.ite (.cmp .notin (.var 6) (.var 2)) #[.put (.var 0) (.var 6) (.call 11 #[v0[v6],v4])] .nil]
def Rs:Ss:=(.set [4] (.bf .dict1 #[.comp ["count","place","goals"] [none,none,some 0] [0,1] (.enm (.var 3)) .no (.tup #[v1,(.bf .len #[v2])+v0])]))::(.set [5] (.comp ["place","goals","copies"] [none,some 0,some 4] [0] (.seq (.var 3)) .no (.call 11 #[v1[v0],v2])))::(.for_ [6] (.rng1 (.bf .len #[v0])) Vk)::Vn
abbrev Zn4:Stmt:=top 16
def F7:LS:=["graph","goals","origins","done","together","doors","head","order","nodes"]
def Pg:Ss:=#[.set [7] (.call 2 #[v1,.lst #[0]]),.set [8] (.comp ["place","origin","graph","goals"] [none,none,some 0,some 1] [0,1] (.enm (.var 2)) .no (.call 1 #[v2[v1],v3[v0]])),.ret (.tup #[.call 3 #[v8,v7],.comp ["place","origins"] [none,some 2] [0] (.seq (.var 7)) .no v1[v0]])]
def Ta:Ss:=(.ite ((.bf .len #[v1])>(.glb 2)) #[.raise 1 .nil] .nil)::Pg
def Vp:Ss:=#[.set [5] (.call 8 #[v1,v4]),.set [6] (.call 10 #[v1,v4,v5]),.expr (.call 12 #[v1,v2,v4,.call 9 #[v1,v4,v5,v6]]),.put (.var 3) (.var 6) (.bl true),.set [4] (.call 7 #[v1,v3])]
def Gy:Ss:=(.set [1] (.comp ["node"] [none] [0] (.seq (.var 0)) .no (.call 0 #[v0])))::(.set [2] (.lrng (.bf .len #[v0])))::(.set [3] .dict0)::(.set [4] (.call 7 #[v1,v3]))::(.while_ (.bop true #[.cmp .isnot (.var 4) .non,.cmp .le (.bf .len #[v1]) (.glb 2)]) Vp)::Ta
abbrev Y51:Stmt:=top 22
def Zi5:LS:=["_law_script","_law_k"]
def Gu:Ss:=#[.ret (.int 0)]
def Zk4:Ss:=(.ite (v1<(.bf .len #[v0])) #[.ret v0[v1]] .nil)::Gu
abbrev Zp4:Stmt:=top 23
def Bo:LS:=["_law_cell_here","_law_k","_law_number"]
def Z30:Ss:=#[.set [2] (((((v0%2147483647)*48271)+((7919*v1)*v1))+104729)%2147483647),.ret ((v2*v2)%2147483629)]
abbrev Zy0:Stmt:=top 24
def Z26:LS:=["_law_number"]
def Z44:Ss:=#[.ret (((v0*(.bin .pow (.int 982451653) (.int 3)))%((2*(.bin .pow (.int 10) (.int 18)))+1))-(.bin .pow (.int 10) (.int 18)))]
abbrev Yg7:Stmt:=top 25
def Y24:LS:=["_law_number","_law_k","_law_many","_law_mode","_law_to"]
def G4:Ss:=#[.ret ((v0/32768)%v2)]
def J3:Ss:=(.ite (v3==2) #[.ret (v1-(v1%((.lst #[1,2,4,8])[(v0/128)%4])))] .nil)::G4
def Jx:Ss:=(.ite (.bop true #[v3==2,((v0/64)%2)==0]) #[.ret (.bf .min2 #[(v1+1)+((v0/128)%3),v2-1])] .nil)::J3
def Z33:Ss:=#[.ret (.lst #[0,v1])[(v0/64)%2]]
def Y13:Ss:=(.ite (v3==1) ((.set [4] ((v1+1)+((v0/32768)%(v2-v1))))::(.ite (v4<v2) #[.ret (.var 4)] .nil)::Z33) .nil)::Jx
abbrev Y45:Stmt:=top 26
def Zn7:LS:=["_law_cell_here","_law_k","_law_many","_law_mode","_law_number","_law_names","_law_one","_law_other","_law_to","_law_near","_law_sign","_law_no"]
def Gd:Ss:=#[.ret (.lst #[.tup #["end"],.tup #["spin"]])[v4%2]]
def Fz:Ss:=(.ite ((v4%32)<30) #[.set [11] (.lst #[v9,v9,v9,.call 17 #[(v4*48271)%2147483629,v1,v2,v3]])[(v4/32)%4],.ret (.tup #["test",v6,(.lst #["<","="])[(v4/131)%2],v7,v8,v11])] .nil)::Gd
def Ze9:Ss:=(.set [4] (.call 15 #[v0,v1]))::(.set [5] (.lst #["x","y","z1","z"]))::(.set [6] (.lst #[v5[(v4/64)%4],((v4/64)%9)-4])[((v4/512)%4)/3])::(.set [7] (.lst #[v5[(v4/2048)%4],.call 16 #[v0+v4]])[((v4/8192)%4)/3])::(.set [8] (.call 17 #[v4,v1,v2,v3]))::(.set [9] (.bf .min2 #[v1+1,v2-1]))::(.ite ((v4%32)<13) #[.set [10] (.lst #["+","-","/","rest","&","^"])[(v4/67)%6],.ret (.tup #["sum",v5[(v4/407)%4],v6,v10,v7,(.lst #[v9,v9,v9,v8])[(v4/32)%4]])] .nil)::Fz
abbrev Zv2:Stmt:=top 27
def Z00:LS:=["_law_node_here"]
def Sv:Ss:=#[.ret (.lst .nil)]
def Vg:Ss:=(.ite (v0[0]=="test") #[.ret (.lst #[v0[5],v0[4]])] .nil)::Sv
def B5:Ss:=(.ite (v0[0]=="sum") #[.ret (.lst #[v0[5]])] .nil)::Vg
abbrev Zw4:Stmt:=top 28
def Bd:LS:=["_law_raw","_law_begun","_law_trail","_law_done","_law_here","_law_step","_law_goals_here"]
def Oy:Ss:=#[.ret (.rev (.var 3))]
def Sy:Ss:=#[.set [4,5] (.mt .pop0 (.var 2) .nil),.set [6] (.call 19 #[v0[v4]]),.ite (v5==(.bf .len #[v6])) #[.expr (.mt .append (.var 3) #[v4])] #[.expr (.mt .append (.var 2) #[.tup #[v4,v5+1]]),.ite (.cmp .notin v6[v5] (.var 1)) #[.expr (.mt .append (.var 1) #[v6[v5]]),.expr (.mt .append (.var 2) #[.tup #[v6[v5],0]])] .nil]]
def Bu:Ss:=(.set [1] (.lst #[0]))::(.set [2] (.lst #[.tup #[0,0]]))::(.set [3] (.lst .nil))::(.while_ (v2 !=(.lst .nil)) Sy)::Oy
abbrev Zy8:Stmt:=top 29
def Z41:LS:=["_law_raw","_law_order_here","_law_graph_here","_law_old","_law_node_here"]
def Og:Ss:=#[.ret (.var 2)]
def Sa:Ss:=#[.expr (.mt .append (.var 2) #[v4])]
def Xy:Ss:=(.ite (v4[0]=="test") #[.set [4] ((.sl (.var 4) .no (.yes (.int 4)))+(.tup #[.mt .index1 (.var 1) #[v4[4]],.mt .index1 (.var 1) #[v4[5]]]))] .nil)::Sa
def Oi:Ss:=(.set [4] v0[v3])::(.ite (v4[0]=="sum") #[.set [4] ((.sl (.var 4) .no (.yes (.int 5)))+(.tup #[.mt .index1 (.var 1) #[v4[5]]]))] .nil)::Xy
def Bt:Ss:=(.set [1] (.call 20 #[v0]))::(.set [2] (.lst .nil))::(.for_ [3] (.seq (.var 1)) Oi)::Og
abbrev Zw1:Stmt:=top 30
def Z28:LS:=["_law_script","_law_start","_law_most","_law_head","_law_many","_law_mode"]
def Sl:Ss:=#[.set [5] (v3%3),.ret (.call 21 #[.comp ["_law_k","_law_script","_law_start","_law_many","_law_mode"] [none,some 0,some 1,some 4,some 5] [0] (.rng1 (.var 4)) .no (.call 18 #[.call 14 #[v1,(v2+1)+v0],v0,v3,v4])])]
def Z39:Ss:=(.set [3] (.call 15 #[.call 14 #[v0,v1],77]))::(.set [4] (1+((v3/6)%v2)))::(.ite (((v3/3)%2)==0) #[.set [4] (.bf .max2 #[1,.bf .min2 #[((.bf .len #[v0])-v1)-1,v2]])] .nil)::Sl
abbrev Zy7:Stmt:=top 31
def Ve:LS:=["_law_found","_law_due","_law_k"]
def Ot:Ss:=#[.ret (.bl true)]
def Ps:Ss:=#[.ite (.not (.call 23 #[v0[v2],v1[v2]])) #[.ret (.bl false)] .nil]
def Of:Ss:=(.for_ [2] (.rng1 (.bf .len #[v1])) Ps)::Ot
def So:Ss:=(.ite ((.bf .len #[v0]) !=(.bf .len #[v1])) #[.ret (.bl false)] .nil)::Of
def Sw:Ss:=(.ite (.bop false #[.bop true #[.bf .isinst #[v1,.ty .tuple],.not (.bf .isinst #[v0,.ty .tuple])],.bop true #[.bf .isinst #[v1,.ty .list],.not (.bf .isinst #[v0,.ty .list])]]) #[.ret (.bl false)] .nil)::So
def V9:Ss:=(.ite (.bf .isinst #[v1,.ty .str]) #[.ret (.bop true #[.bf .isinst #[v0,.ty .str],v0==v1])] .nil)::Sw
def Xq:Ss:=(.ite (.bf .isinst #[v1,.ty .int]) #[.ret (.bop true #[.bf .isinst #[v0,.ty .int],.not (.bf .isinst #[v0,.ty .bool]),v0==v1])] .nil)::V9
def X9:Ss:=(.ite (.bf .isinst #[v1,.ty .bool]) #[.ret (.bop true #[.bf .isinst #[v0,.ty .bool],v0==v1])] .nil)::Xq
def Vd:Ss:=(.ite (.cmp .is (.var 1) .non) #[.ret (.cmp .is (.var 0) .non)] .nil)::X9
abbrev Y49:Stmt:=top 32
def Zi6:LS:=["_law_graph_here","_law_one","_law_found","_law_line","_law_to"]
def Gh:Ss:=#[.ret (.var 2)]
def Eg:Ss:=#[.ite (.bop true #[v4 !=v1,.cmp .notin (.var 4) (.var 2)]) #[.put (.var 2) (.var 4) (.bl true),.expr (.mt .append (.var 3) #[v4])] .nil]
def Gk:Ss:=#[.for_ [4] (.seq (.call 19 #[v0[.mt .pop0 (.var 3) .nil]])) Eg]
def Qn:Ss:=(.while_ (v3 !=(.lst .nil)) Gk)::Gh
def Zk2:Ss:=(.set [2] .dict0)::(.set [3] (.lst .nil))::(.ite (v1 !=0) #[.put (.var 2) (.int 0) (.bl true),.expr (.mt .append (.var 3) #[0])] .nil)::Qn
abbrev Jd:Stmt:=top 33
def Tq:LS:=["_law_graph_here","_law_k","_law_to"]
def Wj:Ss:=#[.ret (.bl true)]
def Wl:Ss:=#[.ite (.bop true #[.cmp .le (.var 2) (.var 1),v1∈(.call 24 #[v0,v2])]) #[.ret (.bl false)] .nil]
def V2:Ss:=#[.for_ [2] (.seq (.call 19 #[v0[v1]])) Wl]
def Tj:Ss:=(.for_ [1] (.rng1 (.bf .len #[v0])) V2)::Wj
abbrev Yg6:Stmt:=top 34
def Y30:LS:=["_law_node_here"]
def Jm:Ss:=#[.ret (.int 1)]
def Q7:Ss:=(.ite (v0[0]=="test") #[.ret (.int 4)] .nil)::Jm
def Y26:Ss:=(.ite (v0[0]=="sum") #[.ret (.int 5)] .nil)::Q7
abbrev Za5:Stmt:=top 35
def Ng:LS:=["_law_node_here","_law_old","_law_many","_law_cut_here","_law_to"]
def Rm:Ss:=#[.ret (.bl true)]
def Rh:Ss:=#[.ite (.bop false #[.not (.bf .isinst #[v4,.ty .int]),.bf .isinst #[v4,.ty .bool],v4<0,.cmp .ge (.var 4) (.var 2)]) #[.ret (.bl false)] .nil]
def V3:Ss:=(.for_ [4] (.seq (.sl (.var 0) (.yes (.var 3)) .no)) Rh)::Rm
def Yx:Ss:=(.set [3] (.call 26 #[v1]))::(.ite (.not (.call 23 #[.slW (.var 0) .no (.yes (.var 3)),.slW (.var 1) .no (.yes (.var 3))])) #[.ret (.bl false)] .nil)::V3
def Oj:Ss:=(.ite (.bop false #[.not (.bf .isinst #[v0,.ty .tuple]),(.bf .len #[v0]) !=(.bf .len #[v1])]) #[.ret (.bl false)] .nil)::Yx
abbrev Zr9:Stmt:=top 36
def Z03:LS:=["_law_graph_here","_law_start","_law_found","_law_line","_law_to"]
def O0:Ss:=#[.ret (.var 2)]
def Nc:Ss:=#[.ite (.cmp .notin (.var 4) (.var 2)) #[.put (.var 2) (.var 4) (.bl true),.expr (.mt .append (.var 3) #[v4])] .nil]
def Pv:Ss:=#[.for_ [4] (.seq (.call 19 #[v0[.mt .pop0 (.var 3) .nil]])) Nc]
def Bh:Ss:=(.set [2] .dict0)::(.set [3] (.lst #[v1]))::(.while_ (v3 !=(.lst .nil)) Pv)::O0
abbrev Z74:Stmt:=top 37
def Oo:LS:=["_law_graph_here","_law_new","_law_origins","_law_many","_law_k","_law_from_old"]
def Rw:Ss:=#[.ret (.bop true #[v2[0]==0,(.call 20 #[v1])==(.lrng (.var 3)),.call 25 #[v1]])]
def Re:Ss:=#[.ite ((.comp ["_law_to","_law_origins"] [none,some 2] [0] (.seq (.call 19 #[v1[v4]])) .no v1[v0]) !=(.call 19 #[v0[v5]])) #[.ret (.bl false)] .nil]
def Rt:Ss:=(.ite (.not (.call 27 #[v1[v4],v0[v5],v3])) #[.ret (.bl false)] .nil)::Re
def R8:Ss:=(.set [5] v2[v4])::(.ite (.bop false #[.not (.bf .isinst #[v5,.ty .int]),.bf .isinst #[v5,.ty .bool],v5<0,.cmp .ge (.var 5) (.bf .len #[v0])]) #[.ret (.bl false)] .nil)::Rt
def Rk:Ss:=(.for_ [4] (.rng1 (.var 3)) R8)::Rw
def O9:Ss:=(.set [3] (.bf .len #[v1]))::(.ite (.bop false #[(.bf .len #[v2]) !=v3,v3>40,v3==0]) #[.ret (.bl false)] .nil)::Rk
abbrev Ye8:Stmt:=top 38
def Zd2:LS:=["_law_graph_here","_law_found"]
def Gc:Ss:=#[.ret (.call 29 #[v0,v1[0],v1[1]])]
def Fs:Ss:=(.ite (.call 25 #[v0]) #[.ret (.call 23 #[v1,.tup #[v0,.lrng (.bf .len #[v0])]])] .nil)::Gc
def E8:Ss:=(.ite (.bop false #[.not (.bf .isinst #[v1[0],.ty .list]),.not (.bf .isinst #[v1[1],.ty .list])]) #[.ret (.bl false)] .nil)::Fs
def Zc8:Ss:=(.ite (.bop false #[.not (.bf .isinst #[v1,.ty .tuple]),(.bf .len #[v1]) !=2]) #[.ret (.bl false)] .nil)::E8
abbrev Z97:Stmt:=top 39
def O6:LS:=["_law_graph_here","_law_found"]
def Wz:Ss:=#[.ret (.var 1)]
def Oh:Ss:=(.set [1] .non)::(.tryN (.set 1) 13 #[v0] 1 #[.set [1] .non])::Wz
abbrev G1:Stmt:=top 40
def Te:LS:=["_law_graph_here","_law_some","_law_plain_ring","_law_k","_law_total"]
def Wr:Ss:=#[.ret (v4-1)]
def V1:Ss:=#[.set [4] (2*v4)]
def Ws:Ss:=(.set [4] (.int 1))::(.for_ [3] (.seq (.var 1)) V1)::Wr
def V5:Ss:=(.ite (.var 2) #[.ret ((2*(.bf .len #[v1]))-1)] .nil)::Ws
def Wo:Ss:=#[.ite ((.setf false (.comp ["_law_to","_law_some"] [none,some 1] [0] (.seq (.call 19 #[v0[v3]])) (.yes (v0∈v1)) (.var 0))) !=1) #[.set [2] (.bl false)] .nil]
def Tf:Ss:=(.set [2] (.bl true))::(.for_ [3] (.seq (.var 1)) Wo)::V5
abbrev Zq1:Stmt:=top 41
def Z08:LS:=["_law_graph_here","_law_reach_here","_law_total","_law_placed","_law_k","_law_some"]
def Oz:Ss:=#[.ret (.var 2)]
def O8:Ss:=#[.set [5] (.compQ ["_law_j","_law_k","_law_reach_here"] [none,some 4,some 1] [0] v1[v4] (v1∈v2[v0]) (.var 0)),.set [3] (v3+v5),.ite (v5==(.lst .nil)) #[.set [2] (v2+1)] #[.set [2] (v2+(.call 32 #[v0,v5]))]]
def Na:Ss:=(.ite (v4∈v3) #[.cont] .nil)::O8
def Z52:Ss:=(.set [1] (.comp ["_law_k","_law_graph_here"] [none,some 0] [0] (.rng1 (.bf .len #[v0])) .no (.call 28 #[v1,v0])))::(.set [2] (.int 0))::(.set [3] (.lst .nil))::(.for_ [4] (.rng1 (.bf .len #[v0])) Na)::Oz
abbrev Ek:Stmt:=top 42
def Rf:LS:=["_law_number","_law_k","_law_to","_law_out"]
def Vj:Ss:=#[.ret (.tup #["test","y","=",(v0/3)%50,v3,v2])]
def Vl:Ss:=(.ite ((v0%3)==1) #[.ret (.tup #["test","x","<",(v0/3)%50,v2,v3])] .nil)::Vj
def Ru:Ss:=(.ite ((v0%3)==0) #[.ret (.tup #["sum","x","x","+",v1,v2])] .nil)::Vl
abbrev Zf2:Stmt:=top 43
def E2:LS:=["_law_script","_law_number","_law_size","_law_free_here","_law_ahead","_law_behind","_law_second","_law_begin","_law_raw","_law_goals_here","_law_k","_law_cell_here"]
def Xb:Ss:=#[.set [8] (v8+(.comp ["_law_k","_law_begin","_law_size"] [none,some 7,some 2] [0] (.rng1 (.var 5)) .no (.tup #["sum","y","y","+",v0,((v1+v2)+v0)+1]))),.ret (.call 21 #[v8+(.lst #[.tup #["end"]])])]
def W2:Ss:=#[.set [11] (.call 15 #[.call 14 #[v0,1+v10],v10+92]),.expr (.mt .append (.var 8) #[.call 34 #[v11,v10,v7+((v10+1)%v2),v7+v2]])]
def Qp:Ss:=(.set [6] (1+((v1/72000)%(v2-1))))::(.set [7] (v4+1))::(.set [8] (.comp ["_law_k"] [none] [0] (.rng1 (.var 4)) .no (.tup #["sum","x","x","+",v0,v0+1])))::(.set [9] (.lst #[.tup #[v7,v7+v6],.tup #[v7+v6,v7]])[(v1/3)%2])::(.expr (.mt .append (.var 8) #[(.tup #["test","x","<",v1%9])+v9]))::(.for_ [10] (.rng1 (.var 2)) W2)::Xb
def Fh:Ss:=(.set [1] (.call 15 #[.call 14 #[v0,0],91]))::(.set [2] (2+(v1%18)))::(.set [3] (39-(2*v2)))::(.set [4] ((v1/18)%(v3+1)))::(.set [5] (v3-v4))::(.ite (((v1/720)%2)==0) #[.set [5] ((v1/1440)%(v5+1))] .nil)::Qp
abbrev Cg:Stmt:=top 44
def Zx0:LS:=["_law_script","_law_graph_here","_law_handed","_law_found","_law_ringed_here","_law_made_of_it","_law_held","_law_again"]
def Yo5:FnScope Zx0 ["_law_script"] (Z7 Cg):=(rfl,rfl,rfl,'k',rfl,'k','k')
def Ci:Ss:=#[.set [6] (.tup #[.bf .list1 #[v3[0]],.bf .list1 #[v3[1]]]),.expr (.mt .clear v3[0] .nil),.expr (.mt .append v3[1] #[0]),.set [7] (.call 13 #[v2]),.ret (.bop true #[.call 23 #[v7,v6],.call 23 #[v3,.tup #[.lst .nil,v6[1]+(.lst #[0])]]])]
def Zm8:Ss:=(.ite (.not (.call 30 #[v1,v3])) #[.ret (.bl false)] .nil)::Ci
def J8:Ss:=(.ite (.cmp .is (.var 3) .non) #[.ret (.bop true #[.not (.call 25 #[v1]),(.bf .len #[v1])>6,(.call 33 #[v1])>40])] .nil)::Zm8
def C7:Ss:=(.set [4] (.call 35 #[v0]))::(.set [5] (.call 31 #[.bf .list1 #[v4]]))::(.ite (.bop false #[.cmp .is (.var 5) .non,.call 25 #[v4],.not (.call 30 #[v4,v5])]) #[.ret (.bl false)] .nil)::J8
def Y54:Ss:=(.set [1] (.call 22 #[v0,0,(.lst #[6,9,12])[(.call 15 #[.call 14 #[v0,0],78])%3]]))::(.set [2] (.bf .list1 #[v1]))::(.set [3] (.call 31 #[v2]))::(.ite (.not (.call 23 #[v2,v1])) #[.ret (.bl false)] .nil)::C7
end
def Yu2:Tc (ck0 Zx0 Cg FN GN BN) Y54 (Y1 Cg)=true:='k'
def Ym3:Stmt->Stmt
 | .ClassDef _ _ _ (b::_) _ _ _ _ _ _ _=>b
 | s=>s
abbrev E7:Stmt:=Ym3 (top 1)
def Yd1:FnScope ["self","row"] ["self","row"] (Z7 E7):=(rfl,rfl,rfl,'k',rfl,'k','k')
def Y71:Zu8 E7=true:='k'
set_option hygiene false
local macro_rules | `(tactic| walk_at "go")=>do
 let ids:=("tss_nil tss_cons scont9 sret9 sexpr9 sset9 sput9 site9 sfor_9 sforK9 swhile_9 sraise9 stryN9 evar9 eint9 ebl9 enon9 estr9 ety9 eglb9 ebin9 eneg9 enot9 ecmp9 ebop9 elst9 etup9 edict09 elkeys9 elrng9 edct9 eix9 esl9 ecall9 ebf9 eslW9 esetf9 erev9 emt9 ecompQ9 ecompK9 ecomp9 lnil09 lcons19 ono09 oyes19 iseq09 irng119 ienm29 dno09 dyes19 bnil09 bcons19 bcons29 tt op_add_i op_add_s op_add_t op_add_l op_sub_i op_mul_i op_mul_l op_fdiv_i op_mod_i op_pow_i cm_lt_i cm_le_i cm_gt_i cm_ge_i cm_eq cm_ne cm_in cm_notin cm_is_n cm_is_i cm_is_s cm_is_b cm_is_t cm_is_r cm_isnot_n cm_isnot_i cm_isnot_s cm_isnot_b cm_isnot_t cm_isnot_r eq_i eq_s eq_b eq_nn eq_is eq_si tru_b tru_i tru_n tru_t ix_t ix_g ix_s sl_s sl_t sl_l is_non is_bl is_int is_str is_tup tyNon tyBl tyInt tyStr tyTup tyLst tyDct bf_len_t bf_len_s bf_is bf_min bf_max bf_list bf_tuple bf_dict at2_xy onRef_r mt_append_r mt_get2_r bf_sortedL on_int ati0 ati1 ati2 Option.some.injEq exists_eq_left' ofS_inj String.reduceEq not_true_eq_false mt_pop_r mt_clear_r mt_reverse_r mt_index_r mt_extend_r mk_append mk_pop mk_clear mk_reverse mk_get2 mk_index mk_extend tg_one tg_two it_r it_t it_g key_i key_s in_ss start0 List.map_cons List.map_nil List.length_cons List.length_nil List.cons_append List.nil_append List.append_nil List.replicate List.set_cons_zero List.set_cons_succ List.getElem?_cons_zero List.getElem?_cons_succ Nat.reduceAdd Nat.reduceSub Nat.sub_self Nat.zero_add decide_eq_true_eq ne_eq Int.reduceEq not_false_eq_true true_and Bool.not_eq_true' decide_eq_false_iff_not Bool.false_eq_true Bool.true_eq_false if_true if_false Bool.not_true Bool.not_false".splitOn " ").toArray.map fun s=>Lean.mkIdent s.toName
 let gs ←(Array.range 28).mapM fun i=>`(tactic| try simp only[$(Lean.mkIdent (Lean.Name.mkSimple s!"g{i}")):ident])
 `(tactic| ((try dsimp only[$[$ids:ident],*]);(try simp only[$[$ids:ident],*]);$[$gs:tactic];*))
local macro_rules | `(tactic| walk_at "ev")=>`(tactic| (walk_at "go";repeat (with_reducible refine Za ?_;walk_at "go")))
set_option hygiene false
local macro_rules | `(tactic| walk_at "es")=>do
 let ids:=("tss scont9 sret9 sexpr9 sset9 sput9 site9 sfor_9 sforK9 swhile_9 sraise9 stryN9 evar9 eint9 ebl9 enon9 estr9 ety9 eglb9 ebin9 eneg9 enot9 ecmp9 ebop9 elst9 etup9 edict09 elkeys9 elrng9 edct9 eix9 esl9 ecall9 ebf9 eslW9 esetf9 erev9 emt9 ecompQ9 ecompK9 ecomp9 lnil09 lcons19 ono09 oyes19 iseq09 irng119 ienm29 dno09 dyes19 bnil09 bcons19 bcons29 tt op_add_i op_add_s op_add_t op_add_l op_sub_i op_mul_i op_mul_l op_fdiv_i op_mod_i op_pow_i cm_lt_i cm_le_i cm_gt_i cm_ge_i cm_eq cm_ne cm_in cm_notin cm_is_n cm_is_i cm_is_s cm_is_b cm_is_t cm_is_r cm_isnot_n cm_isnot_i cm_isnot_s cm_isnot_b cm_isnot_t cm_isnot_r eq_i eq_s eq_b eq_nn eq_is eq_si tru_b tru_i tru_n tru_t ix_t ix_g ix_s sl_s sl_t sl_l is_non is_bl is_int is_str is_tup tyNon tyBl tyInt tyStr tyTup tyLst tyDct bf_len_t bf_len_s bf_is bf_min bf_max bf_list bf_tuple bf_dict mt_append_r mt_get2_r mt_pop_r mt_clear_r mt_reverse_r mt_index_r mt_extend_r mk_append mk_pop mk_clear mk_reverse mk_get2 mk_index mk_extend tg_one tg_two it_r it_t it_g key_i key_s in_ss start0 List.map_cons List.map_nil List.length_cons List.length_nil List.cons_append List.nil_append List.append_nil List.replicate List.set_cons_zero List.set_cons_succ List.getElem?_cons_zero List.getElem?_cons_succ Nat.reduceAdd Nat.reduceSub Nat.sub_self Nat.zero_add decide_eq_true_eq ne_eq Int.reduceEq not_false_eq_true true_and Bool.not_eq_true' decide_eq_false_iff_not Bool.false_eq_true if_true if_false Bool.not_true Bool.not_false".splitOn " ").toArray.map fun s=>Lean.mkIdent s.toName
 `(tactic| simp only[$[$ids:ident],*])
def Kp(M a:Z2):Prop:=∃N,a=M++N
def Kp.refl(M:Z2):Kp M M:=([],(Hd M).symm)
def Kp.app(h:Kp M a)(N:Z2):Kp M (a++N):=by let(L,rfl):=h;show(L++N,by rw[Db])
def Kp.trans(h:Kp M b)(g:Kp b a):Kp M a:=by let(L,rfl):=h;let(c,rfl):=g;show(L++c,by rw[Db])
def Kp.new(M N:Z2):Kp M (M++N):=(N,rfl)
def Kp.L(h:Kp M b)(e:readL M a=some xs):readL b a=some xs:=by let(L,rfl):=h;show Z4 e
def Kp.W(h:Kp M b)(e:Zh M a=some xs):Zh b a=some xs:=by let(L,rfl):=h;show Ql e
def mixN(c k:Int):Int:=(c % 2147483647 * 48271+7919 * k * k+104729) % 2147483647
def mix(c k:Int):Int:=mixN c k * mixN c k % 2147483629
def Yb0(c k:Int):0<=mixN c k:=Hy _ 'd'
def Y89(c k:Int):mixN c k<2147483647:=Ii _ 'd'
def E5(c k:Int):0<=mix c k:=Hy _ 'd'
def Y40(c k:Int):mix c k<2147483629:=Ii _ 'd'
def Xr(a:List Int)(k:Nat):Int:=a.getD k 0
def qm(h:0<j):qmod i j=i % j:=Zu4 h
def qd(h:0<j):qdiv i j=i / j:=Zy3 h
def Zb4(h:∀i∈a,Bits bigN i)(k:Nat):Bits bigN (Xr a k):=by
 ext Xr;rw[Ad];cases e:a[k]? with
 | none=>show(show Bits 1 0 by ext Bits;lia).mono 'd'
 | some v=>show h v (Am e)
def Yq1{d:D}(h0:0<=i)(h:xs[i.toNat]?=some d):atI xs i=some d:=by have:=Vx h;rwa[Ks h0] at this
def Y90{xs:LD}{i:Int}(h0:0<=i)(h:i<Ug xs):∃d,atI xs i=some d/\d∈xs:=by have a:i.toNat<Ug xs:='o';show(xs[i.toNat],Yq1 h0 (Aa a),He a)
inductive Opd where
 | nm (x:Str) | no (i:Int)
def Opd.d:Opd->D
 | .nm x=> .str x
 | .no i=> .int i
inductive Nd where
 | sum (x:Str) (a:Opd) (sg:Str) (b:Opd) (t:Nat) | test (a:Opd) (sg:Str) (b:Opd) (y n:Nat) | fin | spin
def Nd.d:Nd->D
 | .sum x a c b t=> .tup [.str "sum",.str x,a.d,.str c,b.d,.int t]
 | .test a c b y n=> .tup [.str "test",a.d,.str c,b.d,.int y,.int n]
 | .fin=> .tup [.str "end"]
 | .spin=> .tup [.str "spin"]
def Opd.ok:Opd->Bool
 | .nm x=>PyData.canLay0 (.str x)
 | .no _=>true
def Nd.ok:Nd->Bool
 | .sum x a c b _=>PyData.canLay0 (.str x)&&a.ok&&PyData.canLay0 (.str c)&&b.ok
 | .test a c b _ _=>a.ok&&PyData.canLay0 (.str c)&&b.ok
 | .fin=>true
 | .spin=>true
def Nd.gs:Nd->LQ
 | .sum _ _ _ _ t=>[t]
 | .test _ _ _ y n=>[n,y]
 | .fin=>[]
 | .spin=>[]
def Nd.to(f:Nat->Nat):Nd->Nd
 | .sum x a c b t=> .sum x a c b (f t)
 | .test a c b y n=> .test a c b (f y) (f n)
 | .fin=> .fin
 | .spin=> .spin
def Nd.gs_to(f:Nat->Nat)(d:Nd):(d.to f).gs=d.gs.map f:=by cases d<;>rfl
def Nd.ok_to(f:Nat->Nat)(d:Nd):(d.to f).ok=d.ok:=by cases d<;>rfl
def Nd.gs_two(d:Nd):d.gs.length<=2:=by cases d<;>simp[Nd.gs]
def natD(l:LQ):LD:=l.map fun(x:Nat)=>D.int (x:Int)
def Z3(l:LQ):(natD l).length=Ug l:=by ext natD;simp
def Yh{k x:Nat}(h:l[k]?=some x):(natD l)[k]?=some (.int x):=by ext natD;rw[Ch,h];rfl
def Yu(l m:LQ):natD (l++m)=natD l++natD m:=by ext natD;rw[As]
def Pf(l:LQ):(natD l).all Zv=true:=by rw[Ia];intro d h;ext h natD;let(x,_,rfl):=Ar.mp h;rfl
def Ze3(x:Nat)(l:LQ):inD (.int x) (natD l)=decide (x∈l):=by
 unfold inD natD;rw[List.any_map];induction l with
 | nil=>rfl
 | cons y r a=>
  rw[Le,a];show(((y:Int)==(x:Int)) || decide (x∈r))=decide (x∈y::r);by_cases h:x=y
  .subst h;simp
  .have b:¬(y:Int)=(x:Int):='o';simp[h,b]
def Zb9{a x:Nat}(h:readL M a=some (natD l))(q:B (decide (x∈l))):inQ M (.int x) (.ref a) B:=
 .inl (_,h,rfl,Pf l,by rw[Ze3];show q)
def wy(gr:List Nd)(k:Nat):LQ:=match gr[k]? with
 | some d=>d.gs
 | none=>[]
def V4{d:Nd}(h:gr[k]?=some d):wy gr k=d.gs:=by ext wy;rw[h]
def Xs{gr:List Nd}{k:Nat}{d:Nd}(h:gr[k]?=some d):(gr.map Nd.d)[k]?=some d.d:=by rw[Ch,h];rfl
def Ou:DSp:=λc M Q _=>∃(a:Nat) (b:List Int) (k:Nat),c=[.ref a,.int k]/\readL M a=some (b.map .int)/\Q (.int (Xr b k)) M
def Vt:DSp:=λa M Q _=>∃c k:Int,a=[.int c,.int k]/\0<=k/\k<=1000/\Q (.int (mix c k)) M
def Eu:DSp:=λa M Q _=>∃c:Int,a=[.int c]/\Bits (bigN+1) c/\∀v,Q (.int v) M
def Ye0:DSp:=λb M Q _=>∃(c m:Int) (k n:Nat),b=[.int c,.int k,.int n,.int m]/\0<=c/\k<n/\n<=1000/\∀(t:Nat) a,t<n->Kp M a->Q (.int t) a
def Zj5:DSp:=λb M Q _=>∃(c m:Int) (k n:Nat),b=[.int c,.int k,.int n,.int m]/\Bits bigN c/\k<n/\n<=1000/\∀(d:Nd) a,(∀t∈d.gs,t<n)->d.ok=true->Kp M a->Q d.d a
def Wc:DSp:=λa M Q _=>∃d:Nd,a=[d.d]/\Q (.ref (Ug M)) (M++[.lst (natD d.gs)])
def J9:DSp:=λe M Q _=>∃(a:Nat) (b:List Nd),e=[.ref a]/\readL M a=some (b.map Nd.d)/\0<Ug b/\(Ug b)<=1000/\(∀d∈b,∀t∈d.gs,t<Ug b)/\
 ∀O c r,GT.Ord (wy b) (Ug b) O->ND.Ends (wy b) 0 O.reverse->Kp M c->Zh c r=some (natD O)->(Ug M)<=r->Q (.ref r) c
def Sh:DSp:=λf M Q _=>∃(a:Nat) (b:List Nd),f=[.ref a]/\readL M a=some (b.map Nd.d)/\0<Ug b/\(Ug b)<=1000/\(∀d∈b,∀t∈d.gs,t<Ug b)/\(∀d∈b,d.ok=true)/\
 ∀(c:List Nd) (O:LQ) e r,GT.Ord (wy b) (Ug b) O->c=(O.map λx=>(b.getD x .fin).to λy=>O.idxOf y)->GT.Num (wy c) (Ug c)->ND.Ends (wy c) 0 (Aj (Ug c)).reverse->(Ug c)<=Ug b->(∀d∈c,d.ok=true)->Kp M e->Zh e r=some (c.map Nd.d)->(Ug M)<=r->Q (.ref r) e
def Ya1{Γ G}:Rd K Γ G Ou Zk4 Zi5:=by
 rintro d M Q Z ⟨a,b,k,rfl,f,q⟩;delta Zk4 Gu Zi5;rfl';show Zm f ?_;rfl';split
 .rename_i h;have c:k<Ug b:=by simpa using h
  show ix_l f (by rw[Ch,Aa c];rfl) ?_;have e:Xr b k=b[k]:=by ext Xr;rw[Ad,Aa c];rfl
  rw[e] at q;show q
 .rename_i h;have c:Ug b<=k:=by simpa using h
  have e:Xr b k=0:=by ext Xr;rw[Ad,Hk c];rfl
  rw[e] at q;show q
def Zv3{Γ G}:Rd K Γ G Vt Z30 Bo:=by rintro a M Q Z ⟨c,k,rfl,f,e,q⟩;delta Z30 Bo;rfl';rw[qm 'd',qm 'd'];have d:=Yb0 c k;have b:=Y89 c k;show(mulR 'd' 'd',mulL 'd' 'd',mulR 'o' 'o',?_);rfl';rw[qm 'd'];show(mulL (by change -(2 ^ 64)<mixN c k;lia) (by change mixN c k<2 ^ 64;lia),q)
def Zq3{Γ G}:Rd K Γ G Eu Z44 Z26:=by rintro a M Q Z ⟨c,rfl,b,q⟩;delta Z44 Z26;rfl';show(('d','d','d'),Zp3 b (show Bits 300 ((982451653:Int) ^ 3) by ext Bits;decide) 'd',('d','d','d'),mulL 'd' 'd','d',('d','d','d'),q _)
def Yu8{Γ G}{M:Z2}{Q:DK}{c m:Int}{k n:Nat}{d:Option D}(h0:0<=c)(F:k<n)(E:n<=1000)(q:∀(t:Nat) e,t<n->Kp M e->Q (.int t) e):
  tss (K,Γ,G) noX Jx {nx:=λ_ M=>Q .non M,rt:=Q} [some (.int c),some (.int k),some (.int n),some (.int m),d] M:=by
 have f:∀(i:Int) e,0<=i->i<n->Kp M e->Q (.int i) e:=λi e a b k=>by have:=q i.toNat e 'o' k;rwa[Ks a] at this
 have u:tss (K,Γ,G) noX G4 {nx:=λ_ M=>Q .non M,rt:=Q} [some (.int c),some (.int k),some (.int n),some (.int m),d] M:=by delta G4;rfl';have o:(0:Int)<n:='o';rw[qd 'd',qm o];show(Zz 'd' 'd','o',f _ _ (Hy _ 'o') (Ii _ o) (Kp.refl M))
 have l:tss (K,Γ,G) noX J3 {nx:=λ_ M=>Q .non M,rt:=Q} [some (.int c),some (.int k),some (.int n),some (.int m),d] M:=by
  delta J3;rfl';split
  .rw[qm (show(0:Int)<4 by decide),qd (show(0:Int)<128 by decide)];have h:=Hy (c / 128) (show(4:Int)≠0 by decide);have r:=Ii (c / 128) (show(0:Int)<4 by decide);show(Z0 'd',Zz 'd' 'd',?_);let(I,y,p):=Y90 (xs:=[.int 1,.int 2,.int 4,.int 8]) h ↥r;show Yc3 (Zk M _ []) y ?_;erw[Ak,Hf,or_false] at p;have v:=Kp.new M [.lst [.int 1,.int 2,.int 4,.int 8]];have g:∀j:Int,0<j->opD .mod (.int k) (.int j) (M++[.lst [.int 1,.int 2,.int 4,.int 8]]) (λx B=>opD .sub (.int k) x B Q):=by
    intro j w;rw[op_mod_i,op_sub_i,qm w];have L:=Hy (k:Int) (show j≠0 by lia);have J:(k:Int) % j<=k:=by have:=Int.emod_add_mul_ediv (k:Int) j;have H:0<=j * ((k:Int) / j):=Int.mul_nonneg 'o' (Int.ediv_nonneg 'o' 'o');lia
    show('o',f _ _ 'o' 'o' v)
   rcases p with rfl|rfl|rfl|rfl<;>show g _ 'd'
  .show u
 delta Jx;rfl';have h:=Hy (c / 128) (show(3:Int)≠0 by decide);have s:∀x:Int,0<=x->0<=(if (n:Int) - 1<x then(n:Int) - 1 else x)/\(if (n:Int) - 1<x then(n:Int) - 1 else x)<n:=by intro x C;split<;>lia
 split
 .refine(Zz 'd' 'd',?_);split
  .rw[qm (show(0:Int)<3 by decide),qd (show(0:Int)<128 by decide)];show(Zz 'd' 'd',?_);let(A,z):=s ((k:Int)+1+c / 128 % 3) 'o';show f _ _ A z (Kp.refl M)
  .show l
 .show l
def Yo2{Γ G}:Rd K Γ G Ye0 Y13 Y24:=by
 rintro a M Q Z ⟨c,m,k,n,rfl,i,d,h,q⟩;delta Y13 Y24;rfl';split
 .have b:(0:Int)< (n:Int) - k:='o';rw[qd 'd',qm b];have o:=Hy (c / 32768) (show(n:Int) - k≠0 by lia);have l:=Ii (c / 32768) b;show(Zz 'd' 'd','o',?_);rfl';generalize c / 32768 % ((n:Int) - k)=u at o l;split
  .have:=q ((k:Int)+1+u).toNat M 'o' (Kp.refl M);rwa[Ks 'o'] at this
  .delta Z33;rfl';rw[qm 'd',qd 'd'];have g:=Hy (c / 64) (show(2:Int)≠0 by decide);have f:=Ii (c / 64) (show(0:Int)<2 by decide);show(Z0 'd',Zz 'd' 'd',?_);let(p,j,e):=Y90 (xs:=[.int 0,.int k]) g ↥f;show Yc3 (Zk M _ []) j ?_;erw[Ak,Hf,or_false] at e;rcases e with rfl|rfl
   .show q 0 _ 'o' (Kp.new M _)
   .show q k _ d (Kp.new M _)
 .show Yu8 i d h q
def Zz8{Γ G}:Rd K Γ G Wc B5 Z00:=by
 rintro c M Q Z ⟨d,rfl,q⟩;delta B5 Z00;cases d with
 | sum x a e b t=>erw[Nd.d];walk_at "es";show(_,rfl,?_);walk_at "es";show(_,rfl,Z0 'd',q)
 | test a e b y n=>erw[Nd.d];walk_at "es";show(_,rfl,?_);walk_at "es";rw[nc 'k'];delta Vg;walk_at "es";show(_,rfl,?_);walk_at "es";show(_,rfl,_,rfl,Z0 'd',q)
 | fin=>erw[Nd.d];walk_at "es";show(_,rfl,?_);walk_at "es";rw[nc 'k'];delta Vg;walk_at "es";show(_,rfl,?_);walk_at "es";rw[nc 'k'];delta Sv;walk_at "es";show(Z0 'd',q)
 | spin=>erw[Nd.d];walk_at "es";show(_,rfl,?_);walk_at "es";rw[nc 'k'];delta Vg;walk_at "es";show(_,rfl,?_);walk_at "es";rw[nc 'k'];delta Sv;walk_at "es";show(Z0 'd',q)
def pick{a:Nat}{i:Int}(h:readL M a=some xs)(h0:0<=i)(b:i<Ug xs)(q:∀d∈xs,F d):ixD M (.ref a) (.int i) F:=by let(d,e,c):=Y90 h0 b;show Yc3 h e (q d c)
def Xe{a:Nat}{i m:Int}(h:readL M a=some xs)(c:m=Ug xs)(b:0<m)(q:∀d∈xs,F d):ixD M (.ref a) (.int (qmod i m)) F:=by rw[qm b];show pick h (Hy _ 'o') (by rw[<-c];show Ii _ b) q
def Zs9{a:Nat}{x y:D}{i:Int}(h:readL M a=some [x,y])(q1:F x)(q2:F y):ixD M (.ref a) (.int (qdiv (qmod i 4) 3)) F:=by
 rw[qm 'd',qd 'd'];have e:=Hy i (show(4:Int)≠0 by decide);have c:=Ii i (show(0:Int)<4 by decide);show pick h 'o' (by erw[Dy,Ku];lia) λd b=>?_;erw[Ak,Hf,or_false] at b;rcases b with rfl|rfl
 .show q1
 .show q2
def B7{a:Nat}{x:Str}(h:readL M a=some [.str x,.int v])(b:PyData.canLay0 (.str x)=true)(q:∀o:Opd,o.ok=true->F o.d):ixD M (.ref a) (.int (qdiv (qmod i 4) 3)) F:=Zs9 h (q (.nm x) b) (q (.no v) rfl)
def Gq{xs:LS}{d:D}(h:d∈xs.map D.str)(a:(xs.all λx=>PyData.canLay0 (.str x))=true):∃x,d= .str x/\PyData.canLay0 (.str x)=true:=by let(x,b,rfl):=Ar.mp h;rw[Ia] at a;show(x,rfl,a x b)
def Yd8{Γ G}(g2:Γ[15]?=some Vt)(g3:Γ[16]?=some Eu)(g4:Γ[17]?=some Ye0):Rd K Γ G Zj5 Ze9 Zn7:=by
 rintro O M Q Z ⟨c,m,k,n,rfl,hb,W,V,q⟩;delta Ze9 Zn7;walk_at "es";erw[g2];show(c,k,rfl,'o','o',?_);have T:=E5 c k;have m2:=Y40 c k;generalize mix c k=u at T m2;have s:Bits (bigN+1) (c+u):=hb.add ((show Bits 31 u by ext Bits;lia).mono 'd');walk_at "es";erw[g3,g4];have C:∃t:Nat,t<n/\(if (n:Int) - 1< (k:Int)+1 then(n:Int) - 1 else(k:Int)+1)=t:=by
  split
  .exact(n - 1,'o','o')
  .exact(k+1,'o','o')
 let(w,e,N):=C;erw[N];have f:∀(i j:Int),0<j->j<2 ^ 64->Z60 i j:=λi j a b=>Zz a b;show(Z0 'd',f _ _ 'd' 'd',Xe (Zk M _ []) rfl 'd' λd0 h0=>?_);let(x0,rfl,p):=Gq (xs:=["x","y","z1","z"]) h0 'k';show(f _ _ 'd' 'd',Z0 'd',f _ _ 'd' 'd',f _ _ 'd' 'd',?_);show B7 (Zk _ _ []) p λS B=>?_;show(f _ _ 'd' 'd',Xe (Z4 (Zk M _ [])) rfl 'd' λd2 h2=>?_);let(x2,rfl,o):=Gq (xs:=["x","y","z1","z"]) h2 'k';show(c+u,rfl,s,λv=>(Z0 'd',f _ _ 'd' 'd',f _ _ 'd' 'd',B7 (Zk _ _ []) o λR A=>?_));show(u,m,k,n,rfl,T,W,V,λt P ht U=>?_);have H:readL P (Ug M)=some [.str "x",.str "y",.str "z1",.str "z"]:=U.L (Z4 (Z4 (Zk M _ [])));have D:Kp M P:=Kp.trans (((Kp.new M _).app _).app _) U;walk_at "es";split
 .refine(Z0 'd',f _ _ 'd' 'd',Xe (Zk P _ []) rfl 'd' λd4 h4=>?_);let(F,rfl,d):=Gq (xs:=["+","-","/","rest","&","^"]) h4 'k';show(f _ _ 'd' 'd',Xe (Z4 H) rfl 'd' λd5 h5=>?_);let(X,rfl,l):=Gq (xs:=["x","y","z1","z"]) h5 'k';show(Z0 'd',f _ _ 'd' 'd',Xe (Zk _ _ []) rfl 'd' λE h=>?_);obtain⟨g,I,rfl⟩:∃g:Nat,g<n/\E= .int g:=by
   erw[Ak,Hf,or_false] at h;rcases h with rfl|rfl|rfl|rfl
   .exact(w,e,rfl)
   .exact(w,e,rfl)
   .exact(w,e,rfl)
   .exact(t,ht,rfl)
  show(Z0 'd',q (.sum X S F R g) _ ?_ (by erw[Nd.ok,l,B,d,A,Bool.and_self]) ((D.app _).app _));intro y r;erw[Nd.gs,Af] at r;lia
 .delta Fz;walk_at "es";split
  .simp only[g4];have mq:=Hy (u * 48271) (show(2147483629:Int)≠0 by decide);show(mulR 'd' 'd',?_);rw[qm (show(0:Int)<2147483629 by decide)];show(_,m,k,n,rfl,mq,W,V,λY M2 J k2=>?_);walk_at "es";show(Z0 'd',f _ _ 'd' 'd',Xe (Zk _ _ []) rfl 'd' λE h=>?_);obtain⟨g,I,rfl⟩:∃g:Nat,g<n/\E= .int g:=by
    erw[Ak,Hf,or_false] at h;rcases h with rfl|rfl|rfl|rfl
    .exact(w,e,rfl)
    .exact(w,e,rfl)
    .exact(w,e,rfl)
    .exact(Y,J,rfl)
   show(Z0 'd',f _ _ 'd' 'd',Xe (Zk _ _ []) rfl 'd' λd7 h7=>?_);let(F,rfl,d):=Gq (xs:=["<","="]) h7 'k';show(Z0 'd',q (.test S F R t g) _ ?_ (by erw[Nd.ok,B,d,A,Bool.and_self]) (((D.trans k2).app _).app _));intro y r;erw[Nd.gs,Ak,Hf,or_false] at r;lia
  .delta Gd;walk_at "es";show(Z0 'd',Z0 'd',Z0 'd',Xe (Zk _ _ []) rfl 'd' λE h=>?_);erw[Ak,Hf,or_false] at h;rcases h with rfl|rfl
   .show q .fin _ (λy r=>by cases r) rfl (D.app _)
   .show q .spin _ (λy r=>by cases r) rfl (D.app _)
section
variable{K:Ae}
def trD(T:List (Nat×Nat)):LD:=T.map λp=>D.tup [.int (p.1:Nat),.int (p.2:Nat)]
def Zc7(T U:List (Nat×Nat)):trD (T++U)=trD T++trD U:=by ext trD;rw[As]
def Bi(T:List (Nat×Nat))(h s:Nat):trD (T++[#v[h,s]])=trD T++[.tup [.int (h:Nat),.int (s:Nat)]]:=Zc7 _ _
def Zi(l:LQ)(x:Nat):natD (l++[x])=natD l++[.int (x:Nat)]:=Yu _ _
def Zg7(T:List (Nat×Nat)):(trD T).length=Ug T:=by ext trD;simp
def trP(T:List (Nat×Nat)):List PyData:=T.map λp=>PyData.tuple [.int (p.1:Nat),.int (p.2:Nat)]
def Y27:∀T:List (Nat×Nat),PDs M (trP T) (trD T)
 | []=>rfl
 | p::r=>(_,_,rfl,(_,rfl,(_,_,rfl,rfl,(_,_,rfl,rfl,rfl))),Y27 r)
def Zk8:∀T:List (Nat×Nat),PyData.canLayAll0 (trP T)=true
 | []=>rfl
 | p::r=>by change PyData.canLayAll0 (PyData.tuple [.int (p.1:Nat),.int (p.2:Nat)]::trP r)=true;ext PyData.canLayAll0;rw[Zk8 r];rfl
def Zn5(b:readL M x=some (trD T))(a:readL M y=some [])(q:B T.isEmpty):eqD M (.ref x) (.ref y) B:=by
 show .inl (.list (trP T),.list [],(x,_,rfl,b,Y27 T),(y,_,rfl,a,rfl),Zk8 T,rfl,?_,?_)
 .show ni (Nat.min_le_right _ _) 'd'
 .cases T with
  | nil=>show q
  | cons p r=>show q
def toS(g:Nat->LQ)(T:List (Nat×Nat)):List (Nat×LQ):=T.reverse.map λp=>#v[p.1,(g p.1).drop p.2]
def Vi(g:Nat->LQ)(T:List (Nat×Nat))(h s:Nat):toS g (T++[#v[h,s]])=#v[h,(g h).drop s]::toS g T:=by ext toS;rw[List.reverse_append];rfl
def At(g:Nat->LQ)(B:LQ)(T:List (Nat×Nat))(F:LQ):Prop:=∃k,ND.itr g k ([0],[#v[0,g 0]],[])=(B,toS g T,F)
def At.begin(g:Nat->LQ):At g [0] [#v[0,0]] []:=(0,rfl)
def At.close(a:At g B (T++[#v[h,s]]) F)(b:s=(g h).length):At g B T (F++[h]):=by let(k,e):=a;show(k+1,?_);change ND.stp g (ND.itr g k _)=_;rw[e,Vi,b,List.drop_length];rfl
def At.pass(a:At g B (T++[#v[h,s]]) F)(b:(g h)[s]?=some y)(c:y∈B):At g B (T++[#v[h,s+1]]) F:=by let(k,e):=a;show(k+1,?_);change ND.stp g (ND.itr g k _)=_;let(f,d):=Ab.mp b;rw[e,Vi,Vi,Hx f,d];show(if y∈B then _ else _)=_;rw[ng c]
def At.open(a:At g B (T++[#v[h,s]]) F)(b:(g h)[s]?=some y)(c:¬y∈B):At g (B++[y]) (T++[#v[h,s+1],#v[y,0]]) F:=by let(k,e):=a;show(k+1,?_);change ND.stp g (ND.itr g k _)=_;let(f,d):=Ab.mp b;rw[show T++[#v[h,s+1],#v[y,0]]=(T++[#v[h,s+1]])++[#v[y,0]] by simp,e,Vi,Vi,Vi,Hx f,d];show(if y∈B then _ else _)=_;rw[nc c,List.drop_zero]
def At.ends(a:At g B [] F):ND.Ends g 0 F:=by let(k,e):=a;show(k,B,e)
structure Wk(g:Nat->LQ)(n:Nat)(B:LQ)(T:List (Nat×Nat))(F:LQ):Prop where
 am:At g B T F
 bl:∀x∈B,x<n
 st:∀p∈T,p.2<=(g p.1).length
section
variable{g:Nat->LQ}{n h s y:Nat}{B F:LQ}{T:List (Nat×Nat)}
def Wk.ok(w:Wk g n B T F):ND.Ok g 0 (B,toS g T,F):=by let(k,e):=w.am;have:=(ND.Ok.begin g 0).itr k;rwa[e] at this
def Wk.room(w:Wk g n B T F):Ug B<=n:=ND.Zu n B w.ok.nb w.bl
def Wk.small(w:Wk g n B T F):Ug T+Ug F<=n:=by have:=ND.Zu n _ w.ok.nd λx a=>w.bl x ((w.ok.eq x).mpr (Ap.mp a));ext this toS;simpa using this
def Wk.top(w:Wk g n B (T++[#v[h,s]]) F):h∈B:=(w.ok.eq h).mpr (.inl (by ext toS;simp))
def Wk.close(w:Wk g n B (T++[#v[h,s]]) F)(a:s=(g h).length):Wk g n B T (F++[h]):=(w.am.close a,w.bl,λp b=>w.st p (Ax _ b))
def Wk.pass(w:Wk g n B (T++[#v[h,s]]) F)(b:(g h)[s]?=some y)(c:y∈B):Wk g n B (T++[#v[h,s+1]]) F:=(w.am.pass b c,w.bl,λp a=>by
 rcases Ap.mp a with a|a
 .show w.st p (Ax _ a)
 .rw[Af.mp a];show(Ab.mp b).1)
def Wk.open(w:Wk g n B (T++[#v[h,s]]) F)(c:(g h)[s]?=some y)(d:y<n)(e:¬y∈B):Wk g n (B++[y]) (T++[#v[h,s+1],#v[y,0]]) F:=(w.am.open c e,λx b=>by
 rcases Ap.mp b with b|b
 .show w.bl x b
 .rw[Af.mp b];show d,λp a=>by
 rcases Ap.mp a with a|a
 .show w.st p (Ax _ a)
 .simp only[Ak,Hf,or_false] at a;rcases a with rfl|rfl
  .exact(Ab.mp c).1
  .show nk _)
end
def Zb0{Γ G}(g6:Γ[19]?=some Wc)(X:readL M a=some (c.map Nd.d))(h1:Ug c<=1000)(Z:∀d∈c,∀t∈d.gs,t<Ug c)
  (w:Wk (wy c) (Ug c) B (T++[#v[h,s]]) F) (N:Z2)
  (q:∀E A R N2 x v u,GT.wkM (Ug c) E A<GT.wkM (Ug c) B (T++[#v[h,s]])->Wk (wy c) (Ug c) E A R->C [↑a,↑(Ug M),some (.ref (Ug M+1)),some (.ref (Ug M+2)),x,v,u] (M++(.lst (natD E):: .lst (trD A):: .lst (natD R)::N2))):
  tss (K,Γ,G) noX Sy {nx:=C,rt:=Q,bk:=bk,ct:=C} [↑a,↑(Ug M),some (.ref (Ug M+1)),some (.ref (Ug M+2)),x,v,u] (M++(.lst (natD B):: .lst (trD (T++[#v[h,s]])):: .lst (natD F)::N)):=by
 have Y:=w.bl h w.top;obtain⟨d,p⟩:∃d,c[h]?=some d:=(_,Aa Y);have m:wy c h=d.gs:=V4 p;have o:s<=(wy c h).length:=w.st #v[h,s] 's';rw[m] at o;have U:=d.gs_two;have i:=w.small;rw[Ag] at i;have J:=w.room;have P:trD (T++[#v[h,s]])=trD T++[.tup [.int h,.int s]]:=Zc7 _ _;delta Sy;rfl';show(Z8 (by rw[Yt];rfl),_,.tup [.int h,.int s],by rw[V8];rfl,by rw[P];simp,?_);rfl';rw[S5,P,Kn];rfl';show ix_l (Z4 X) (Xs p) ?_;show(d,rfl,?_);rfl';rw[Db];erw[Kh];have el:(M++ .lst (natD B):: .lst (trD T):: .lst (natD F)::N).length=Ug M+(Ug N+3):=by simp
 rw[el];have l:∀b t f,readL (M++ .lst b:: .lst t:: .lst f::(N++[.lst (natD d.gs)])) (Ug M+(Ug N+3))=some (natD d.gs):=by intro b t f;rw[Yt];show Zk N _ []
 have O:∀b g,readL (M++ .lst b::g) (Ug M)=some b:=λb g=>Zk M _ _;have L:∀b t g,readL (M++ .lst b:: .lst t::g) (Ug M+1)=some t:=λb t g=>by rw[Yt];rfl
 have W:∀b t f g,readL (M++ .lst b:: .lst t:: .lst f::g) (Ug M+2)=some f:=λb t f g=>by rw[Yt];rfl
 have H:∀b t g,Zh (M++ .lst b:: .lst t::g) (Ug M+1)=some t:=λb t g=>by rw[V8];rfl
 have S:∀b t f g,Zh (M++ .lst b:: .lst t:: .lst f::g) (Ug M+2)=some f:=λb t f g=>by rw[V8];rfl
 generalize (Ug M)+(Ug N+3)=gp at l;show Zm (l _ _ _) ?_;rfl';rw[Z3];erw[Dy,Ku] at i;split
 .rename_i e;have r:s=d.gs.length:='o';show(Z8 (W _ _ _ _),_,S _ _ _ _,by rw[Z3];show Z1 'o',?_);rw[S5];rfl';rw[<-Zi];show q _ _ _ _ _ _ _ (GT.Zd5 'o') (w.close (by rw[m];show r))
 .rename_i e;have r:s<d.gs.length:='o';obtain⟨y,k⟩:∃y,d.gs[s]?=some y:=(_,Aa r);have n:y<Ug c:=Z d (Am p) y (Am k);show(Z8 (L _ _ _),Z0 'd',_,H _ _ _,by rw[Zg7];show Z1 'o',?_);rw[S5];rfl';show ix_l (l _ _ _) (Yh k) ?_;show Zb9 (O _ _) ?_;rfl';have e1:trD T++[.tup [.int h,.int ((s:Int)+1)]]=trD (T++[#v[h,s+1]]):=(Bi T h (s+1)).symm;rw[e1];by_cases j:y∈B
  .rw[nc (λz=>z j)];show q _ _ _ _ _ _ _ (GT.Zt3 'o') (w.pass (by rw[m];show k) j)
  .rw[ng j];have I:=w.open (by rw[m];show k) n j;have V:=I.room;rw[Ag,Au] at V;show(Z8 (O _ _),ix_l (l _ _ _) (Yh k) (_,Yk M _ _,by rw[Z3];show Z1 'o',?_));rfl';rw[Sf];show(Z8 (L _ _ _),ix_l (l _ _ _) (Yh k) (Z0 'd',_,H _ _ _,by rw[Zg7,Ag,Au];show Z1 'o',?_));rw[S5];rfl';have e2:trD (T++[#v[h,s+1]])++[.tup [.int y,.int 0]]=trD (T++[#v[h,s+1],#v[y,0]]):=by rw[show T++[#v[h,s+1],#v[y,0]]=(T++[#v[h,s+1]])++[#v[y,0]] by simp,Bi (T++[#v[h,s+1]])];rfl
   rw[<-Zi,e2];show q _ _ _ _ _ _ _ (GT.Zz5 'o' 'o') I
def Zx6{Γ G}(g6:Γ[19]?=some Wc):Rd K Γ G J9 Bu Bd:=by
 rintro i M Q Z ⟨a,b,rfl,v,C,A,z,q⟩;delta Bu Bd;rfl';show(Z0 'd',Z0 'd',Z0 'd',Z0 'd',?_);erw[Ag,Dy,Ku,Db,Kh,Mr,Nat.zero_add,Nat.add_assoc,Nat.reduceAdd];show(λm j o=>∃B T F N f e d,m=GT.wkM (Ug b) B T/\j=[↑a,↑(Ug M),some (.ref (Ug M+1)),some (.ref (Ug M+2)),f,e,d]/\o=M++(.lst (natD B):: .lst (trD T):: .lst (natD F)::N)/\Wk (wy b) (Ug b) B T F,
  (_,[0],[#v[0,0]],[],[],none,none,none,rfl,rfl,rfl,At.begin _,λx g=>by rw[Af.mp g];show C,λp y=>by rw[Af.mp y];show nk _),?_)
 rintro m j o ⟨B,T,F,N,f,e,d,rfl,rfl,rfl,w⟩;rfl';show(Z0 'd',?_);rw[Db];erw[Kh];have t:∀n:Z2,readL (M++ .lst (natD B):: .lst (trD T):: .lst (natD F)::n) (Ug M+1)=some (trD T):=λn=>by rw[Yt];rfl
 show Zn5 (t _) (by rw[show M++ .lst (natD B):: .lst (trD T):: .lst (natD F)::(N++[.lst []])=(M++ .lst (natD B):: .lst (trD T):: .lst (natD F)::N)++[.lst []] by simp];show Zk _ _ []) ?_;cases k:T.isEmpty with
 | true=>
  rw[nc 'd'];have D:T=[]:=List.isEmpty_iff.mp k;subst D;delta Oy;rfl';show(natD F,by rw[Yt];rfl,?_);show q F.reverse _ _ (w.am.ends.ord λx g=>w.bl x ((w.ok.eq x).mpr (.inr g))) (by rw[Go];show w.am.ends) (((Kp.new M _)).app _) ?_ ?_
  .rw[show natD F.reverse=(natD F).reverse by ext natD;rw[List.map_reverse]];show Yk _ _ []
  .rw[Ag];lia
 | false=>
  rw[ng rfl];have c:T≠[]:=by rintro rfl;cases k
  obtain⟨l,⟨h,s⟩,rfl⟩:∃l p,T=l++[p]:=(T.dropLast,T.getLast c,(Ib c).symm);show Zb0 g6 v A z w _ λJ E I H f e d u r=>(_,u,J,E,I,H,f,e,d,rfl,rfl,rfl,r)
end
def Qv{M:Z2}{P:Nat->Prop}{a x:Nat}{O:LQ}(h:readL M a=some (natD O))(e:x∈O)(q:P (O.idxOf x)):
  ∃xs k z,readL M a=some xs/\Zv (.int (x:Nat))=true/\xs.all Zv=true/\xs[k]?=some z/\eqF z (.int (x:Nat))=true/\(∀(j:Nat) u,j<k->xs[j]?=some u->eqF u (.int (x:Nat))=false)/\P k:=by
 have d:O.idxOf x<Ug O:=Dn e;show(natD O,O.idxOf x,.int (x:Nat),h,rfl,Pf O,Yh ?_,by simp[eqF],λj u g c=>?_,q)
 .rw[Aa d,Ih d]
 .have b:j<Ug O:='o';rw[Yh (Aa b)] at c;cases c;have f:O[j]≠x:=by have:=List.not_of_lt_findIdx (p:=(·==x)) (xs:=O) (i:=j) g;simpa using this
  show(((O[j]:Nat):Int)==((x:Nat):Int))=false;rw[beq_eq_false_iff_ne];lia
def gra(a:List Nd)(O:LQ):List Nd:=O.map λx=>(a.getD x .fin).to λy=>O.idxOf y
def Xc(a:List Nd)(O:LQ):(gra a O).length=Ug O:=by ext gra;simp
def Z05(a:List Nd)(O:LQ):wy (gra a O)=GT.X3 (wy a) O:=by
 funext k;unfold wy gra GT.X3;rw[Ch];cases e:O[k]? with
 | none=>rfl
 | some x=>
  erw[Ud];rw[Nd.gs_to,Ad];cases b:a[x]? with
  | none=>rfl
  | some d=>rfl
def Yd7{n:Nat}(o:GT.Ord (wy a) n O):GT.Num (wy (gra a O)) (gra a O).length:=by rw[Z05,Xc];show o.num
def Zx9{n:Nat}(o:GT.Ord (wy a) n O)(e:ND.Ends (wy a) 0 O.reverse):ND.Ends (wy (gra a O)) 0 (Aj (gra a O).length).reverse:=by
 rw[Z05,Xc];have:=ND.X3 (g':=GT.X3 (wy a) O) e (λi c=>?_)
 .rw[Ht] at this;show this
 .have b:i<Ug O:=by rwa[Go] at c
  erw[Go];ext GT.X3;rw[Aa b]
def Yo4(h:∀d∈a,d.ok=true):∀d∈gra a O,d.ok=true:=by
 intro d b;ext b gra;let(x,_,rfl):=Ar.mp b;rw[Nd.ok_to,Ad];cases e:a[x]? with
 | none=>rfl
 | some d=>show h d (Am e)
def Jf{a:List Nd}{i x:Nat}{d:Nd}(h:O[i]?=some x)(b:a[x]?=some d):(gra a O)[i]?=some (d.to λy=>O.idxOf y):=by ext gra;rw[Ch,h,Ud,Ad,b];rfl
def Yc{a:Type}{l:List a}{i:Nat}{x:a}(h:l[i]?=some x):l.take (i+1)=l.take i++[x]:=by let(c,b):=Ab.mp h;rw[<-b];show List.take_succ_eq_append_getElem c
def Zw2{Γ G}(g7:Γ[20]?=some J9):Rd K Γ G Sh Bt Z41:=by
 rintro ds M Q Z ⟨a,raw,rfl,hr,h0,h1,hg,hok,q⟩;delta Bt Z41;rfl';show(a,raw,rfl,hr,h0,h1,hg,λO M1 ro ord ends kp hO hro=>?_);have hOL:=Zf hO;have aL:=kp.L hr;have ol:=ord.le;rfl';show(Z0 'd',_,Z4 hOL,?_);show Y5 (λi σ M'=>∃d3 d4,σ=[↑a,↑ro,↑(Ug M1),d3,d4]/\M'=M1++[.lst (((gra raw O).take i).map Nd.d)]) (none,none,rfl,rfl) ?_ ?_ ?_
 .rintro i σ M' _ ⟨d3,d4,rfl,rfl⟩;show Z4 hOL
 .rintro i dx σ M' C hx ⟨d3,d4,rfl,rfl⟩ hC;have hi:i<Ug O:=by have:=(Ab.mp hx).1;rwa[Z3] at this
  rw[Yh (Aa hi)] at hx;cases hx;have hxi:O[i]?=some O[i]:=Aa hi;generalize O[i]=x at hxi;have hxn:x<Ug raw:=ord.lt x (Am hxi);obtain⟨d,hd⟩:∃d,raw[x]?=some d:=(_,Aa hxn);have cl:∀y∈d.gs,y∈O:=λy hy=>ord.cl x (Am hxi) y (by rw[V4 hd];show hy);have fin:∀d3 d4,C [↑a,↑ro,↑(Ug M1),d3,d4] (M1++[.lst (((gra raw O).take i).map Nd.d++[(d.to λy=>O.idxOf y).d])]):=by intro d3 d4;show hC _ _ (d3,d4,rfl,?_);rw[Yc (Jf hxi hd),As];rfl
  have len:(((gra raw O).take i).map Nd.d).length<sizeLine:=by rw[Ai,Hz,Xc];show Z1 'o'
  delta Oi;rfl';show ix_l (Z4 aL) (Xs hd) ?_;have last:∀d3 v bk,v=(d.to λy=>O.idxOf y).d->tss (K,Γ,G) noX Sa {nx:=C,rt:=Q,bk:=bk,ct:=C} [↑a,↑ro,↑(Ug M1),d3,some v] (M1++[.lst (((gra raw O).take i).map Nd.d)]):=by rintro d3 v bk rfl;delta Sa;rfl';show(Z8 (Zk _ _ []),_,Yk _ _ [],len,?_);rw[Sf];show fin _ _
  cases d with
  | sum nm o1 sg o2 t=>erw[Nd.d];rfl';rw[show U.cutD [.str "sum",.str nm,o1.d,.str sg,o2.d,.int t] none (some 5)=[.str "sum",.str nm,o1.d,.str sg,o2.d] from rfl];show('d',Z8 (Z4 hOL),_,rfl,Qv (Z4 hOL) (cl t (by simp[Nd.gs])) ?_);show(Z0 'd',by simp,Z0 's',?_);delta Xy;rfl';show last _ _ _ rfl
  | test o1 sg o2 y n=>erw[Nd.d];rfl';delta Xy;rfl';rw[show U.cutD [.str "test",o1.d,.str sg,o2.d,.int y,.int n] none (some 4)=[.str "test",o1.d,.str sg,o2.d] from rfl];show('d',Z8 (Z4 hOL),_,rfl,Qv (Z4 hOL) (cl y (by simp[Nd.gs])) ?_);show(Z8 (Z4 hOL),_,rfl,Qv (Z4 hOL) (cl n (by simp[Nd.gs])) ?_);show(Z0 'd',by simp,Z0 's',?_);show last _ _ _ rfl
  | fin=>erw[Nd.d];rfl';delta Xy;rfl';show last _ _ _ rfl
  | spin=>erw[Nd.d];rfl';delta Xy;rfl';show last _ _ _ rfl
 .rintro σ M' ⟨d3,d4,rfl,rfl⟩;delta Og;rfl';show q (gra raw O) O _ _ ord rfl (Yd7 ord) (Zx9 ord ends) (by rw[Xc];show ol) (Yo4 hok) (kp.app _) ?_ ?_
  .rw[show(natD O).length=(gra raw O).length by rw[Z3,Xc],Dj];show Yk _ _ []
  .let(L,rfl):=kp;rw[Ag];lia
def begD(B:LQ):KQ9:=B.map fun(x:Nat)=>(#v[Dw (x:Int),D.bl true]:Key×D)
def Wb(B:LQ):(begD B).length=Ug B:=by ext begD;simp
def X2(B:LQ)(y:Nat):(valD (begD B) (Dw (y:Int))).isSome=decide (y∈B):=by
 unfold valD begD;induction B with
 | nil=>rfl
 | cons x r a=>
  rw[Az,Im];by_cases e:x=y
  .subst e;simp
  .have:decide ((Dw (x:Int):Key)=Dw (y:Int))=false:=by rw[decide_eq_false_iff_not];intro z;show e (by have:=Mv z;lia)
   rw[this];simp only;rw[a];have b:¬y=x:=λz=>e z.symm;simp[b]
def Xi{B:LQ}{y:Nat}(h:¬y∈B):putD (begD B) (Dw (y:Int)) (.bl true)=begD (B++[y]):=by
 ext putD;rw[nc]
 .unfold begD;rw[As];rfl
 .intro z;let(d,b,a):=Lo.mp z;ext b begD;let(x,c,rfl):=Ar.mp b;rw[decide_eq_true_eq] at a;have:=Mv a;have e:x=y:='o';show h (e ▸ c)
def Xx{x y:Nat}(e:readL M x=some (natD l))(d:readL M y=some [])(q:B l.isEmpty):eqD M (.ref x) (.ref y) B:=by
 have c:∀l:LQ,PDs M (l.map fun(x:Nat)=>PyData.int (x:Int)) (natD l):=by
  intro l;induction l with
  | nil=>rfl
  | cons x r b=>show(_,_,rfl,rfl,b)
 have a:∀l:LQ,PyData.canLayAll0 (l.map fun(x:Nat)=>PyData.int (x:Int))=true:=by
  intro l;induction l with
  | nil=>rw[Dh,PyData.canLayAll0]
  | cons x r b=>rw[Az];ext PyData.canLayAll0;rw[b];rfl
 show .inl (.list (l.map fun(x:Nat)=>PyData.int (x:Int)),.list [],(x,_,rfl,e,c l),(y,_,rfl,d,rfl),a l,rfl,?_,?_)
 .show ni (Nat.min_le_right _ _) 'd'
 .cases l with
  | nil=>show q
  | cons p r=>show q
def Z29{a:Type}(xs:List a)(d:a):atI (xs++[d]) (-1)=some d:=by
 have h:ixN (xs++[d]).length (-1)=some (Ug xs):=by ext ixN;rw[nc 'o',ng (by rw[Ag,Au];lia)];congr 1;rw[Ag,Au];lia
 ext atI;rw[h];simp
def cL(h:M[i]?=some (.lst xs)):readL M i=some xs:=by ext readL;rw[h]
def cW(h:M[i]?=some (.lst xs)):Zh M i=some xs:=by ext Zh;rw[h]
def cD(h:M[i]?=some (.dct xs)):Y7 M i=some xs:=by ext Y7;rw[h]
def c_lt{M:Z2}{i:Nat}{c:Cell}(h:M[i]?=some c):i<Ug M:=(Ab.mp h).1
def Yy{M:Z2}{i:Nat}{c c':Cell}(h:M[i]?=some c'):(M.set i c)[i]?=some c:=Ds (c_lt h)
def c_ne{M:Z2}{i j:Nat}{c c':Cell}(h:M[j]?=some c')(a:i≠j):(M.set i c)[j]?=some c':=by rw[Dk a];show h
def Z5{M N:Z2}{j:Nat}{c':Cell}(h:M[j]?=some c'):(M++N)[j]?=some c':=by rw[De (c_lt h)];show h
def Zb{M:Z2}{c:Cell}:(M++[c])[Ug M]?=some c:=by simp
def Kp.set{M a:Z2}(h:Kp M a)(hi:Ug M<=i):Kp M (a.set i c):=by let(N,rfl):=h;show(N.set (i - (Ug M)) c,by rw[Df _ _ hi])
def opA(O:List (Nat×Nat×LQ)):LD:=O.map λp=> .tup [.int (p.1:Nat),.ref p.2.1]
def Zc4(O:List (Nat×Nat×LQ)):(opA O).length=Ug O:=by ext opA;simp
def V7(O:List (Nat×Nat×LQ))(x j:Nat)(r:LQ):opA (O++[#v[x,j,r]])=opA O++[.tup [.int (x:Nat),.ref j]]:=by ext opA;rw[As];rfl
def toW(O:List (Nat×Nat×LQ)):List (Nat×LQ):=O.reverse.map λp=>#v[p.1,p.2.2]
def W7(O:List (Nat×Nat×LQ))(x j:Nat)(r:LQ):toW (O++[#v[x,j,r]])=#v[x,r]::toW O:=by ext toW;rw[List.reverse_append];rfl
structure Wst(M M':Z2)(b f o:Nat)(B F:LQ)(O:List (Nat×Nat×LQ)):Prop where
 kp:Kp M M'
 nb:Ug M<=b
 nf:Ug M<=f
 no:Ug M<=o
 fo:f≠o
 hb:M'[b]?=some (.dct (begD B))
 hf:M'[f]?=some (.lst (natD F))
 ho:M'[o]?=some (.lst (opA O))
 li:∀p∈O,M'[p.2.1]?=some (.lst (natD p.2.2.reverse))/\(Ug M)<=p.2.1/\p.2.1≠f/\p.2.1≠o
 nd:(O.map (·.2.1)).Nodup
def c_dl{M:Z2}{i j:Nat}{x:KQ9}{y:LD}(h:M[i]?=some (.dct x))(k:M[j]?=some (.lst y)):i≠j:=λe=>by subst e;rw[h] at k;cases k
section
variable{M M':Z2}{b f o:Nat}{B F:LQ}{O:List (Nat×Nat×LQ)}{x j:Nat}{r:LQ}
def Wst.app(h:Wst M M' b f o B F O)(N:Z2):Wst M (M'++N) b f o B F O:=
 (h.kp.app N,h.nb,h.nf,h.no,h.fo,Z5 h.hb,Z5 h.hf,Z5 h.ho,λp a=>by let(d,c):=h.li p a;show(Z5 d,c),h.nd)
def Wst.done(h:Wst M M' b f o B F (O++[#v[x,j,[]]])):Wst M ((M'.set f (.lst (natD (F++[x])))).set o (.lst (opA O))) b f o B (F++[x]) O:=by
 have k:=c_dl h.hb h.hf;have i:=c_dl h.hb h.ho;show((h.kp.set h.nf).set h.no,h.nb,h.nf,h.no,h.fo,c_ne (c_ne h.hb k.symm) i.symm,c_ne (Yy h.hf) h.fo.symm,Yy (c_ne h.ho h.fo),λp d=>?_,?_)
 .let(g,e,c,a):=h.li p (Ax _ d);show(c_ne (c_ne g c.symm) a.symm,e,c,a)
 .have:=h.nd;rw[As] at this;show(Dt.mp this).1
def Wst.pop{t:Nat}(h:Wst M M' b f o B F (O++[#v[x,j,t::r]])):Wst M (M'.set j (.lst (natD r.reverse))) b f o B F (O++[#v[x,j,r]]):=by
 let(l,k,i,g):=h.li #v[x,j,t::r] 's';have n:=c_dl h.hb l;have d:=h.nd;rw[As] at d;show(h.kp.set k,h.nb,h.nf,h.no,h.fo,c_ne h.hb n.symm,c_ne h.hf i,?_,λp a=>?_,by rw[As];show d)
 .have:=c_ne (c:= .lst (natD r.reverse)) h.ho g;rw[V7] at this |-;show this
 .rcases Ap.mp a with a|a
  .let(g1,g2,g3,g4):=h.li p (Ax _ a);have m:j≠p.2.1:=λe=>(Dt.mp d).2.2 p.2.1 (Ar.mpr (p,a,rfl)) j 's' e.symm;show(c_ne g1 m,g2,g3,g4)
  .rw[Af] at a;subst a;show(Yy l,k,i,g)
def Wst.beg(h:Wst M M' b f o B F O)(t:Nat):Wst M (M'.set b (.dct (begD (B++[t])))) b f o (B++[t]) F O:=by show(h.kp.set h.nb,h.nb,h.nf,h.no,h.fo,Yy h.hb,c_ne h.hf (c_dl h.hb h.hf),c_ne h.ho (c_dl h.hb h.ho),λp c=>?_,h.nd);let(a,d):=h.li p c;show(c_ne a (c_dl h.hb a),d)
def Wst.push(h:Wst M M' b f o B F O)(t:Nat)(l:LQ):Wst M ((M'++[Cell.lst (natD l)]).set o (.lst (opA (O++[#v[t,Ug M',l.reverse]])))) b f o B F (O++[#v[t,Ug M',l.reverse]]):=by
 have i:=c_lt h.ho;have k:=c_lt h.hf;show((h.kp.app _).set h.no,h.nb,h.nf,h.no,h.fo,c_ne (Z5 h.hb) (c_dl h.hb h.ho).symm,c_ne (Z5 h.hf) h.fo.symm,Yy (Z5 h.ho),λp d=>?_,?_)
 .rcases Ap.mp d with d|d
  .let(g1,g2,g3,g4):=h.li p d;show(c_ne (Z5 g1) g4.symm,g2,g3,g4)
  .rw[Af] at d;subst d;have:=h.no;show(?_,by have:=h.kp;let(N,rfl):=h.kp;erw[Ag];lia,λe=>absurd k (by simp only at e;lia),λe=>absurd i (by simp only at e;lia));show((M'++[Cell.lst (natD l)]:Z2).set o _)[Ug M']?=some (Cell.lst (natD l.reverse.reverse));rw[Go];show c_ne Zb 'o'
 .rw[As];show Dt.mpr (h.nd,by simp,λa m c g=>?_);let(p,d,rfl):=Ar.mp m;have:=c_lt (h.li p d).1;have g:c=Ug M':=by simpa using g
  lia
end
def GA(M:Z2)(a:Nat)(S:Nat->Prop)(gf:Nat->LQ):Prop:=∀p,S p->∀(b:Z2),Kp M b->∀F:D->Prop,(∀d,B3 b d=some (natD (gf p))->F d)->ixD b (.ref a) (.int (p:Nat)) F
def Ze2{Γ G}{M w:Z2}{a st b f o:Nat}{S:Nat->Prop}{gf:Nat->LQ}(U:GA M a S gf){B F:LQ}{O:List (Nat×Nat×LQ)}{x j:Nat}{r:LQ}{Q:DK}{C V:DEnv->Z2->Prop}{E v u s:Option D}
  (h:Wst M w b f o B F (O++[#v[x,j,r]])) (X:Ug F<=8000) (W:Ug O<=8000) (Y:Ug B<=8000) (L:∀t∈r,S t)
  (q:∀J H I n v u s,ND.stp (λy=>(gf y).reverse) (B,toW (O++[#v[x,j,r]]),F)=(J,toW H,I)->Wst M n b f o J I H->C [↑a,↑st,↑b,↑f,E,↑o,v,u,s] n):
  tss (K,Γ,G) noX R7 {nx:=C,rt:=Q,bk:=V,ct:=C} [↑a,↑st,↑b,↑f,E,↑o,v,u,s] w:=by
 let(m,R,P,N):=h.li #v[x,j,r] 's';delta R7;rfl';have g:atI (opA (O++[#v[x,j,r]])) (-1)=some (.tup [.int (x:Nat),.ref j]):=by rw[V7];show Z29 _ _
 show .inl (_,-1,_,rfl,cL h.ho,g,?_);rfl';show(Z0 'd',Xx (Z4 (cL m)) (cL Zb) ?_);have e:=h.app [.lst []];have p:=W7 O x j r;generalize w++[.lst []]=M1 at e;cases r with
 | nil=>rw[ng 's'];show(Z8 (cL e.hf),_,cW e.hf,by rw[Z3];show Z1 'o',?_);rw[<-Zi];have z:=c_ne (c:= .lst (natD (F++[x]))) e.ho e.fo;show(Z8 (cL z),_,.tup [.int (x:Nat),.ref j],cW z,by rw[V7];simp,?_);rw[V7,Kn];show q B O (F++[x]) _ _ _ _ (by rw[p];rfl) e.done
 | cons t r=>
  rw[nc 's'];have A:natD (t::r).reverse=natD r.reverse++[.int (t:Nat)]:=by rw[List.reverse_cons];show Zi _ _
  let(m,_):=e.li #v[x,j,t::r] 's';show(Z8 (cL m),_,.int (t:Nat),cW m,by rw[A];simp,?_);rw[A,Kn];have l:=e.pop;generalize M1.set j (.lst (natD r.reverse))=n at l;rfl';show .inr (.inl (begD B,_,cD l.hb,rfl,?_));rw[X2];by_cases i:t∈B
  .rw[decide_eq_true i]
   try dsimp only
   rw[nc 'd'];show q B (O++[#v[x,j,r]]) F _ _ _ _ (by rw[p,W7];show(if t∈B then _ else _)=_;rw[ng i]) l
  .rw[mm i]
   try dsimp only
   rw[ng rfl];show .inr (begD B,_,cD l.hb,rfl,by rw[Wb];show Z1 'o',?_);rfl';rw[Xi i];have k:=l.beg t;generalize n.set b (.dct (begD (B++[t])))=M3 at k;show(Z8 (cL k.ho),U t (L t Aw) M3 k.kp _ λd T=>(natD (gf t),T,Z0 'd',?_));show(_,cW (Z5 k.ho),by rw[Zc4,Ag,Au];show Z1 'o',?_);rw[<-V7 _ _ _ (gf t).reverse];show q (B++[t]) (O++[#v[x,j,r]]++[#v[t,Ug M3,(gf t).reverse]]) F _ _ _ _ (by rw[p,W7,W7];show(if t∈B then _ else _)=_;rw[nc i]) (k.push t (gf t))
def Y03{n x:Nat}{rest r B F d c:LQ}{s a:List (Nat×LQ)}(i:∀t,t≠n->g' t=g t)(h:∀t∈r,t≠n)(e:ND.stp g (B,#v[x,r]::s,F)=(d,a,c)):ND.stp g' (n::B,#v[x,r]::(s++[#v[n,rest]]),F)=(n::d,a++[#v[n,rest]],c):=by
 cases r with
 | nil=>have e:ND.St.mk B s (F++[x])=(d,a,c):=e;injection e with e1 e2 e3;subst e1;subst e2;subst e3;rfl
 | cons t r=>
  have f:=h t Aw;have e:(if t∈B then ND.St.mk B (#v[x,r]::s) F else(B++[t],#v[t,g t]::#v[x,r]::s,F))=(d,a,c):=e;show(if t∈n::B then ND.St.mk (n::B) (#v[x,r]::(s++[#v[n,rest]])) F else(n::B++[t],#v[t,g' t]::#v[x,r]::(s++[#v[n,rest]]),F))=_;by_cases b:t∈B
  .rw[ng b] at e;rw[ng (An _ b)];injection e with e1 e2 e3;subst e1;subst e2;subst e3;rfl
  .rw[nc b] at e;rw[nc (λz=>(Ak.mp z).elim f b),i t f];injection e with e1 e2 e3;subst e1;subst e2;subst e3;rfl
def Y01{N x:Nat}{s d:List (Nat×LQ)}(j:B.Nodup)(o:∀u∈B,u<N)(k:∀t∈r,t<N/\(g t).length<=2)(e:ND.stp g (B,#v[x,r]::s,F)=(i,d,h)):ND.mea N (i,d,h)<ND.mea N (B,#v[x,r]::s,F):=by
 rw[<-e];cases r with
 | nil=>change ND.mea N (B,s,F++[x])<_;ext ND.mea;simp
 | cons t r=>
  change ND.mea N (if t∈B then(B,#v[x,r]::s,F) else(B++[t],#v[t,g t]::#v[x,r]::s,F))<_;let(p,q):=k t Aw;split
  .unfold ND.mea;simp
  .rename_i m;have l:(B++[t]).length<=N:=ND.Zu N (B++[t]) (Dt.mpr (j,by simp,λa n c f=>by rw[Af] at f;subst f;show λe=>m (e ▸ n))) λu b=>by
    rcases Ap.mp b with b|b
    .show o u b
    .rw[Af] at b;subst b;show p
   rw[Ag,Au] at l;ext ND.mea;erw[Ag,Au,Az,Lf,Dy];lia
def gR(n:Nat)(starts:LQ)(gf:Nat->LQ):Nat->LQ:=λy=>if y=n then starts else(gf y).reverse
structure Wf(n:Nat)(starts:LQ)(S:Nat->Prop)(gf:Nat->LQ):Prop where
 lt:∀p,S p->p<n
 small:n<=2000
 st:∀x∈starts,S x
 two:∀p,S p->(gf p).length<=2
 cl:∀p,S p->∀t∈gf p,S t
def Yh6{n:Nat}{S:Nat->Prop}(h:Wf n starts S gf):∀x,(x=n\/S x)->∀t∈gR n starts gf x,S t:=by
 intro x b t a;ext a gR;by_cases e:x=n
 .rw[ng e] at a;show h.st t a
 .rw[nc e] at a;show h.cl x (b.resolve_left e) t (Dl.mp a)
def Yh2{n:Nat}{S:Nat->Prop}(h:Wf n starts S gf)(k:Nat):ND.In (λx=>x=n\/S x) (ND.itr (gR n starts gf) k ([n],[#v[n,starts]],[])):=by
 induction k with
 | zero=>change ND.In _ ([n],[#v[n,starts]],[]);show(λy a=>by rw[Af] at a;show .inl a,λp c=>by rw[Af] at c;subst c;show(.inl rfl,λt b=> .inr (h.st t b)),λy a=>by simp at a)
 | succ k d=>show d.stp λx e t b=> .inr (Yh6 h x e t b)
def Yu9{n:Nat}(k:Nat):ND.Ok (gR n starts gf) n (ND.itr (gR n starts gf) k ([n],[#v[n,starts]],[])):=by
 have e:starts=gR n starts gf n:=by ext gR;rw[ng rfl]
 have:=(ND.Ok.begin (gR n starts gf) n).itr k;rwa[<-e] at this
def facts{n:Nat}{starts:LQ}{S:Nat->Prop}{gf:Nat->LQ}(h:Wf n starts S gf){k:Nat}{B F rest:LQ}{s:List (Nat×LQ)}(e:ND.itr (gR n starts gf) k ([n],[#v[n,starts]],[])=(n::B,s++[#v[n,rest]],F)):
  B.Nodup/\(∀u∈B,S u)/\(Ug B)<=n/\(Ug s)+Ug F<=n/\∀p∈s,∀t∈p.2,S t:=by
 have i:=Yu9 (n:=n) (starts:=starts) (gf:=gf) k;have a:=Yh2 h k;rw[e] at i a;let(l,c):=Hq.mp i.nb;have o:∀u∈B,S u:=λu j=>(a.b u (An _ j)).resolve_left λz=>l (z ▸ j);show(c,o,ND.Zu n B c λu j=>h.lt u (o u j),?_,λp m t q=>?_)
 .have:=ND.Zu (n+1) _ i.nd λy f=>by
   have:y=n\/S y:=by
    rcases Ap.mp f with f|f
    .let(p,m,rfl):=Ar.mp f;show(a.s p m).1
    .show a.d y f
   rcases this with z|z
   .lia
   .have:=h.lt y z;lia
  erw[Ag,Ai,Au] at this;lia
 .have g:p∈s++[#v[n,rest]]:=Ax _ m;show Yh6 h p.1 (a.s p g).1 t ((i.op p g).1 t q)
def Y47(O:List (Nat×Nat×LQ)):(toW O).length=Ug O:=by ext toW;simp
def Ft{Γ G}{M P:Z2}{a st b f o n k:Nat}{starts rest:LQ}{S:Nat->Prop}{gf:Nat->LQ}(V:GA M a S gf)(i:Wf n starts S gf){B F:LQ}{O:List (Nat×Nat×LQ)}{Q:DK}{C bk:DEnv->Z2->Prop}{I g d c:Option D}
  (h:Wst M P b f o B F O) (e:ND.itr (gR n starts gf) k ([n],[#v[n,starts]],[])=(n::B,toW O++[#v[n,rest]],F))
  (q:∀w v s R g d c,Wst M s b f o w v []->ND.itr (gR n starts gf) R ([n],[#v[n,starts]],[])=(n::w,[#v[n,rest]],v)->C [↑a,↑st,↑b,↑f,I,↑o,g,d,c] s):
  tss (K,Γ,G) noX Se {nx:=C,rt:=Q,bk:=bk,ct:=C} [↑a,↑st,↑b,↑f,I,↑o,g,d,c] P:=by
 delta Se;rfl';show(λm J s=>∃B O F g d c k,m=ND.mea n (B,toW O,F)/\J=[↑a,↑st,↑b,↑f,I,↑o,g,d,c]/\Wst M s b f o B F O/\ND.itr (gR n starts gf) k ([n],[#v[n,starts]],[])=(n::B,toW O++[#v[n,rest]],F),(_,B,O,F,g,d,c,k,rfl,rfl,h,e),?_);rintro m J s ⟨B,O,F,g,d,c,k,rfl,rfl,h,e⟩;rfl';show .inl (opA O,cL h.ho,?_)
 try dsimp only
 by_cases A:O=[]
 .subst A;rw[nc (by simp[opA])];show q B F s k g d c h e
 .have E:(!(opA O).isEmpty)=true:=by
   cases O with
   | nil=>show absurd rfl A
   | cons _ _=>rfl
  rw[ng ↥E];obtain⟨N,⟨y,j,r⟩,rfl⟩:∃N p,O=N++[p]:=(O.dropLast,O.getLast A,(Ib A).symm);let(Z,Y,f3,X,W):=facts i e;rw[Y47,Ag,Au] at X;have sm:=i.small;have x:∀t∈r,S t:=W #v[y,r] (by rw[W7];show Aw);show Ze2 V h 'o' 'o' 'o' x λw L v M3 g d c H U=>?_;rw[W7] at H e;show(ND.mea n (w,toW L,v),?_,w,L,v,g,d,c,k+1,rfl,rfl,U,?_)
  .rw[W7];show Y01 Z (λu T=>i.lt u (Y u T)) (λt l=>(i.lt t (x t l),by rw[Ht];show i.two t (x t l))) H
  .change ND.stp _ (ND.itr _ k _)=_;rw[e];show Y03 (λt l=>by ext gR;rw[nc l]) (λt l z=>absurd (i.lt t (x t l)) 'o') H
def Tz:DSp:=λg M Q _=>∃(a f n:Nat) (b:LQ) (S:Nat->Prop) (c:Nat->LQ),g=[.ref a,.ref f]/\readL M f=some (natD b)/\GA M a S c/\Wf n b S c/\
 ∀d e r,ND.Ends (gR n b c) n (d++[n])->Kp M e->Zh e r=some (natD d.reverse)->(Ug M)<=r->Q (.ref r) e
def Zr6{Γ G}:Rd K Γ G Tz Z19 Z11:=by
 rintro R M Q Z ⟨a,st,n,b,S,j,rfl,w,O,l,q⟩;delta Z19 Z11;rfl';rw[Db,Kh,Mr,Ag,Dy,Ku];show(Z0 'd',_,Z4 w,?_);show Y5 (λi A c=>∃B F H E r o m k,A=[↑a,↑st,↑(Ug M),some (.ref (Ug M+1)),H,E,r,o,m]/\Kp M c/\c[Ug M]?=some (.dct (begD B))/\c[Ug M+1]?=some (.lst (natD F))/\ND.itr (gR n b j) k ([n],[#v[n,b]],[])=(n::B,[#v[n,b.drop i]],F))
  ([],[],none,none,none,none,none,0,rfl,Kp.new _ _,by simp[begD],by simp[natD],rfl) ?_ ?_ ?_
 .rintro i A c _ ⟨B,F,H,E,r,o,m,k,rfl,v,N,h,e⟩;show v.L w
 .rintro i dx A c C g ⟨B,F,H,E,r,o,m,k,rfl,v,N,h,e⟩ Y;obtain⟨x,D,rfl⟩:∃x,b[i]?=some x/\dx= .int (x:Nat):=by ext g natD;rw[Ch,Ig] at g;let(x,D,e):=g;show(x,D,e.symm)
  let(hi,J):=Ab.mp D;have dr:b.drop i=x::b.drop (i+1):=by rw[Hx hi,J]
  have X:S x:=l.st x (Am D);have W:x≠n:=λz=>absurd (l.lt x X) 'o';delta O1;rfl';have z0:Ug M+1<Ug c:=c_lt h;have u:Wst M (c++[.lst []]) (Ug M) (Ug M+1) (Ug c) B F []:=
   (v.app _,na _,'o','o','o',Z5 N,Z5 h,Zb,λp hp=>by simp at hp,by simp)
  generalize y0:c++[.lst []]=M1 at u;have sm:=l.small;let(_,_,lB,_,_):=facts l (s:=[]) e;show(Z0 'd',.inr (.inl (begD B,_,cD u.hb,rfl,?_)));rfl';rw[X2];rw[dr] at e;by_cases y:x∈B
  .rw[decide_eq_true y];rw[nc 'd'];show Ft (k:=k+1) (rest:=b.drop (i+1)) O l u ?_ λV U T I r o m f P=>?_
   .change ND.stp _ (ND.itr _ k _)=_;rw[e];show(if x∈n::B then _ else _)=_;rw[ng (An _ y)];rfl
   .show Y _ _ (V,U,_,_,_,_,_,I,rfl,f.kp,f.hb,f.hf,P)
  .rw[mm y];rw[ng rfl];show .inr (begD B,_,cD u.hb,rfl,by rw[Wb];show Z1 'o',?_);rfl';rw[Xi y];have t:=u.beg x;generalize M1.set (Ug M) (.dct (begD (B++[x])))=T at t;show(Z8 (cL t.ho),O x X T t.kp _ λd hd=>(natD (j x),hd,Z0 'd',?_));show(_,cW (Z5 t.ho),by rw[Zc4];show Z1 's',?_);rw[<-V7 _ _ _ (j x).reverse];have f:=t.push x (j x);show Ft (k:=k+1) (rest:=b.drop (i+1)) O l f ?_ λV U T I r o m f P=>?_
   .change ND.stp _ (ND.itr _ k _)=_;rw[e];show(if x∈n::B then _ else _)=_;rw[nc (λz=>(Ak.mp z).elim W y)];change ND.St.mk (n::B++[x]) [#v[x,gR n b j x],#v[n,b.drop (i+1)]] F=_;ext gR;rw[nc W];rfl
   .show Y _ _ (V,U,_,_,_,_,_,I,rfl,f.kp,f.hb,f.hf,P)
 .rintro A c ⟨B,F,H,E,r,o,m,k,rfl,v,N,h,e⟩;have hl:(natD b).length=Ug b:=Z3 _;rw[hl,List.drop_length] at e;delta Oe;rfl';show(Z8 (cL h),_,cW h,?_);have en:ND.Ends (gR n b j) n (F++[n]):=by
   show(k+1,n::B,?_);have e0:gR n b j n=b:=by ext gR;rw[ng rfl]
   rw[e0];change ND.stp _ (ND.itr _ k _)=_;rw[e];rfl
  show q F _ _ en (v.set 'o') ?_ 'o';rw[cW (Yy h)];ext natD;rw[List.map_reverse]
def Eb:DSp:=λa M Q _=>∃d:Nd,a=[d.d]/\Q (.tup (natD d.gs.reverse)) M
def Nd.wt(l:LQ):Nd->Nd
 | .sum x a c b _=> .sum x a c b (l.getD 0 0)
 | .test a c b _ _=> .test a c b (l.getD 0 0) (l.getD 1 0)
 | .fin=> .fin
 | .spin=> .spin
def Nd.wt_to(f:Nat->Nat)(d:Nd):d.wt (d.gs.reverse.map f)=d.to f:=by cases d<;>rfl
def Nd.wt_gs(d:Nd)(h:Ug l=d.gs.length):(d.wt l).gs.reverse=l:=by
 cases d with
 | sum x a c b t=>match l,h with | [p],_=>rfl
 | test a c b y n=>match l,h with | [p,q],_=>rfl
 | fin=>match l,h with | [],_=>rfl
 | spin=>match l,h with | [],_=>rfl
def LT(M:Z2)(g:D)(l:LQ):Prop:=(∃r,g= .ref r/\readL M r=some (natD l))\/g= .tup (natD l)
def Zm2{K:Ae}(h:LT M g l)(q:Q (.tup (natD l)) M):bfD K .tuple1 [g] M Q:=by
 rcases h with⟨r,rfl,h⟩|rfl
 .rw[bf_tuple];show(_,h,q)
 .rw[Zg8];show q
def Fe:DSp:=λa M Q _=>∃(d:Nd) (l:LQ) (g:D),a=[d.d,g]/\(Ug l)=d.gs.length/\LT M g l/\Q (d.wt l).d M
def Vb:DSp:=λf M Q _=>∃(a b:Nat) (c:List Nd) (O:LQ),f=[.ref a,.ref b]/\readL M a=some (c.map Nd.d)/\readL M b=some (natD O)/\O.Nodup/\(Ug O)<=2000/\(∀x∈O,x<Ug c)/\(∀x∈O,∀t∈wy c x,t∈O)/\
 ∀e r,Kp M e->Zh e r=some ((gra c O).map Nd.d)->(Ug M)<=r->Q (.ref r) e
def numP(O:LQ):KQ9:=O.mapIdx λi (x:Nat)=>(#v[Dw (x:Int),D.int (i:Nat)]:Key×D)
def Fu(O:LQ)(y:Nat):numP (O++[y])=numP O++[#v[Dw (y:Int),D.int (Ug O:Nat)]]:=by ext numP;rw[List.mapIdx_append];simp
def Bw(O:LQ):(numP O).length=Ug O:=by ext numP;simp
def Zz3(m:KQ9)(k j:Key)(v:D):valD (putD m k v) j=if k=j then some v else valD m j:=by
 ext putD;split
 .rename_i h;ext valD;induction m with
  | nil=>simp at h
  | cons p r f=>
   rw[Az,Im,Im];by_cases d:p.1=k
   .rw[ng d];by_cases b:k=j
    .subst b;simp[d]
    .have:decide (p.1=j)=false:=by rw[decide_eq_false_iff_not,d];show b
     erw[this];rw[nc b];by_cases e:(r.any λa=>decide (a.1=k))=true
     .have:=f e;rwa[nc b] at this
     .have i:r.map (λa=>if a.1=k then#v[a.1,v] else a)=r:=by
       rw[Hu (g:=id)]
       .simp
       .intro a c;rw[nc]
        .rfl
        .intro z;show e (Lo.mpr (a,c,↥z))
      rw[i]
   .rw[nc d];have e:(r.any λa=>decide (a.1=k))=true:=by simpa[d] using h
    by_cases b:p.1=j
    .have:¬k=j:=λz=>d (b.trans z.symm);simp[b,this]
    .simp only[b,decide_false];show f e
 .rename_i h;ext valD;rw[List.find?_append];by_cases b:k=j
  .subst b;have:m.find? (λa=>decide (a.1=k))=none:=by rw[List.find?_eq_none];intro a c z;show h (Lo.mpr (a,c,z))
   rw[this];simp
  .rw[nc b];simp[b]
def Ox(ps:KQ9)(p:Key×D):Su (ps++[p])=putD (Su ps) p.1 p.2:=by ext Su;rw[List.foldl_append];rfl
def Zn6:∀(n:Nat) (O:LQ),Ug O=n->O.Nodup->∀x∈O,valD (Su (numP O)) (Dw (x:Int))=some (.int (O.idxOf x:Nat))
 | 0,O,h,_,x,f=>by rw[Du.mp h] at f;cases f
 | n+1,O,h,g,x,f=>by
  have c:O≠[]:=by rintro rfl;cases h
  obtain⟨d,y,rfl⟩:∃d y,O=d++[y]:=(O.dropLast,O.getLast c,(Ib c).symm);rw[Ag,Au] at h;have a:=Dt.mp g;rw[Fu,Ox,Zz3];by_cases e:y=x
  .subst e;rw[ng rfl];have i:y∉d:=λz=>a.2.2 y z y 's' rfl;rw[List.idxOf_append,nc i];simp
  .rw[nc (λz=>e (by have:=Mv z;lia))];have b:x∈d:=(Ap.mp f).resolve_right (by rw[Af];show λz=>e z.symm);rw[Zn6 n d 'o' a.1 x b,List.idxOf_append,ng b]
def Np{d:D}(h:(F3 xs)[i]?=some d):∃x,xs[i]?=some x/\d= .tup [.int (i:Nat),x]:=by ext h F3;rw[Hv,Ig] at h;let(x,a,rfl):=h;show(x,a,rfl)
def Jc(xs:LD):(F3 xs).length=Ug xs:=by ext F3;simp
def Yg9{Γ G}:Rd K Γ G Eb Y36 Y32:=by
 rintro c M Q Z ⟨d,rfl,q⟩;delta Y36 Y32;cases d with
 | sum x a e b t=>erw[Nd.d];rfl';show(_,rfl,Z0 'd',q)
 | test a e b y n=>erw[Nd.d];rfl';delta Q1;rfl';show(_,rfl,_,rfl,Z0 'd',q)
 | fin=>erw[Nd.d];rfl';delta Q1;rfl';delta Jt;rfl';show(Z0 'd',q)
 | spin=>erw[Nd.d];rfl';delta Q1;rfl';delta Jt;rfl';show(Z0 'd',q)
def Yq6{Γ G}:Rd K Γ G Fe Qk Qz:=by
 rintro f M Q Z ⟨d,l,g,rfl,h,i,q⟩;delta Qk Qz;cases d with
 | sum x a c b t=>
  obtain⟨p,rfl⟩:∃p,l=[p]:=by match l,h with|[p],_=>show(p,rfl)
  erw[Nd.d];rfl';show('d',?_);show Zm2 i ?_;rw[show U.cutD [.str "sum",.str x,a.d,.str c,b.d,.int t] none (some 5)=[.str "sum",.str x,a.d,.str c,b.d] from rfl];show(by simp[natD],Z0 (by simp[natD]),q)
 | test a c b y n=>
  obtain⟨p,e,rfl⟩:∃p e,l=[p,e]:=by match l,h with|[p,e],_=>show(p,e,rfl)
  erw[Nd.d];rfl';delta X6;rfl';show('d',?_);show Zm2 i ?_;rw[show U.cutD [.str "test",a.d,.str c,b.d,.int y,.int n] none (some 4)=[.str "test",a.d,.str c,b.d] from rfl];show(by simp[natD],Z0 (by simp[natD]),q)
 | fin=>erw[Nd.d];rfl';delta X6;rfl';delta W9;rfl';show q
 | spin=>erw[Nd.d];rfl';delta X6;rfl';delta W9;rfl';show q
def Z79{Γ G}(g0:Γ[0]?=some Eb)(g1:Γ[1]?=some Fe):Rd K Γ G Vb O3 Oq:=by
 rintro I M Q Z ⟨a,b,g,O,rfl,V,E,T,Y,A,D,q⟩;delta O3 Oq;rfl';show(_,E,?_);erw[capD,Az,Dh,Hg,Dz,Dv,Dr,Hh];show Zj (λi f k=>∃h u,f=[h,u]/\k=M++[.lst (Ys (numP (O.take i)))]) (none,none,rfl,rfl) ?_ ?_ ?_
 .rintro i f k _ ⟨h,u,rfl,rfl⟩;show(_,Z4 E,rfl)
 .rintro i P f k C l ⟨h,u,rfl,rfl⟩ H;let(y,w,rfl):=Np l;have B:i<Ug O:=by have:=(Ab.mp w).1;rwa[Z3] at this
  have e:O[i]?=some O[i]:=Aa B;generalize O[i]=z at e;rw[Yh e] at w;cases w;rfl';show(Z0 'd',_,Yk _ _ [],by ext U.Ys;rw[Ai,Bw,Hz];show Z1 'o',?_);rw[Sf];show H _ _ (_,_,rfl,?_);rw[Yc e,Fu,Hz,Nat.min_eq_left 'o'];ext U.Ys;rw[As];rfl
 .rintro f k ⟨h,u,rfl,rfl⟩;rw[Jc,Z3,Dj];show .inr (numP O,Zk _ _ [],by rw[Bw];show Z1 'o',?_);have o:Kp M (M++[.lst (U.Ys (numP O))]++[.dct (Su (numP O))]):=(Kp.new _ _).app _;have n:Y7 (M++[.lst (U.Ys (numP O))]++[.dct (Su (numP O))]) (M++[Cell.lst (U.Ys (numP O))]:Z2).length=some (Su (numP O)):=Zd0 _ _ [];generalize M++[.lst (U.Ys (numP O))]++[.dct (Su (numP O))]=M1 at o n;generalize (M++[Cell.lst (U.Ys (numP O))]:Z2).length=nn at n;have s:=o.L V;have r:=o.L E;show(_,r,?_);show Zj (λi f k=>∃h N,f=[h,↑a,↑nn]/\k=M1++ .lst (((gra g O).take i).map Nd.d)::N) (none,[],rfl,rfl) ?_ ?_ ?_
  .rintro i f k _ ⟨h,N,rfl,rfl⟩;show Z4 r
  .rintro i P f k C l ⟨h,N,rfl,rfl⟩ H;have B:i<Ug O:=by have:=(Ab.mp l).1;rwa[Z3] at this
   have e:O[i]?=some O[i]:=Aa B;generalize O[i]=x at e;rw[Yh e] at l;cases l;have p:=Am e;obtain⟨d,t⟩:∃d,g[x]?=some d:=(_,Aa (A x p));have R:=d.gs_two;rfl';show ix_l (Z4 s) (Xs t) (ix_l (Z4 s) (Xs t) ?_);show(d,rfl,?_);rfl';rw[Db];erw[Kh];have W:(M1++ .lst (((gra g O).take i).map Nd.d)::N).length=Ug M1+(Ug N+1):=by simp
   rw[W];show Zj (λj f k=>∃h,f=[h,↑nn]/\k=M1++ .lst (((gra g O).take i).map Nd.d)::(N++[.lst (natD ((d.gs.reverse.take j).map λy=>O.idxOf y))])) (none,rfl,rfl) (λ_ _ _ _ _=>trivial) ?_ ?_
   .rintro j P f k C2 l ⟨h,rfl,rfl⟩ F;have J:j<d.gs.reverse.length:=by have:=(Ab.mp l).1;rwa[Z3] at this
    have m:d.gs.reverse[j]?=some d.gs.reverse[j]:=Aa J;generalize d.gs.reverse[j]=y at m;rw[Yh m] at l;cases l;have v:y∈O:=D x p y (by rw[V4 t];show Dl.mp (Am m));rfl';show ix_d (Qx n) rfl (Zn6 _ O rfl T y v) ?_;have S:∀c,Zh (M1++ .lst (((gra g O).take i).map Nd.d)::(N++[.lst c])) (Ug M1+(Ug N+1))=some c:=λc=>by rw[V8];show Yk N _ []
    show(_,S _,by rw[Z3,Ai,Hz];rw[Ht] at J |-;show Z1 'o',?_);rw[S5,List.set_cons_succ,Sf,<-Zi];show F _ _ (_,rfl,?_);rw[Yc m,As];rfl
   .rintro f k ⟨h,rfl,rfl⟩;rw[Z3,Dj];show(d,d.gs.reverse.map λy=>O.idxOf y,_,rfl,by simp,.inl (_,rfl,by rw[Yt];show Zk N _ []),?_);rw[Nd.wt_to];show(_,Yk _ _ _,by rw[Ai,Hz,Xc];show Z1 'o',?_);rw[Sf];show H _ _ (_,N++[.lst (natD (d.gs.reverse.map λy=>O.idxOf y))],rfl,?_);rw[Yc (Jf e t),As];rfl
  .rintro f k ⟨h,N,rfl,rfl⟩;show q _ _ (o.app _) ?_ ?_
   .rw[Z3,<-Xc g O,Dj];show Yk _ _ _
   .let(X,rfl):=o;rw[Ag];lia
structure DLs(M:Z2)(lo:Nat)(kvs:KQ9)(ps:LQ)(at_:Nat->Nat)(h:Nat->LQ):Prop where
 eq:kvs=ps.map fun(p:Nat)=>(#v[Dw (p:Int),D.ref (at_ p)]:Key×D)
 inj:∀p∈ps,∀q∈ps,at_ p=at_ q->p=q
 lo:∀p∈ps,lo<=at_ p
 cell:∀p∈ps,M[at_ p]?=some (.lst (natD (h p)))
def Zk7:∀(n:Nat) (ps:KQ9),Ug ps=n->(ps.map (·.1)).Nodup->Su ps=ps
 | 0,ps,h,_=>by rw[Du.mp h];rfl
 | n+1,ps,h,e=>by
  have a:ps≠[]:=by rintro rfl;cases h
  obtain⟨b,y,rfl⟩:∃b y,ps=b++[y]:=(ps.dropLast,ps.getLast a,(Ib a).symm);rw[Ag,Au] at h;rw[As] at e;let(d,_,c):=Dt.mp e;rw[Ox,Zk7 n b 'o' d];ext putD;rw[nc];intro z;let(f,i,g):=Lo.mp z;rw[decide_eq_true_eq] at g;show c f.1 (Ar.mpr (f,i,rfl)) y.1 's' g
def Ym6{ps:LQ}(h:ps.Nodup)(f:Nat->D):((ps.map fun(p:Nat)=>(#v[Dw (p:Int),f p]:Key×D)).map (·.1)).Nodup:=by rw[Hw];show Tr.map _ (λa b c z=>c (by have:=Mv z;lia)) h
def Jk{ps:LQ}(h:ps.Nodup)(f:Nat->D):Su (ps.map fun(p:Nat)=>(#v[Dw (p:Int),f p]:Key×D))=ps.map fun(p:Nat)=>(#v[Dw (p:Int),f p]:Key×D):=Zk7 _ _ rfl (Ym6 h f)
def Ed{ps:LQ}(f:Nat->D)(p:Nat):valD (ps.map fun(p:Nat)=>(#v[Dw (p:Int),f p]:Key×D)) (Dw (p:Int))=if p∈ps then some (f p) else none:=by
 ext valD;induction ps with
 | nil=>rfl
 | cons x r a=>
  rw[Az,Im];by_cases e:x=p
  .subst e;simp
  .have:decide ((Dw (x:Int):Key)=Dw (p:Int))=false:=by rw[decide_eq_false_iff_not];intro z;show e (by have:=Mv z;lia)
   rw[this];simp only;rw[a];have b:¬p=x:=λz=>e z.symm;simp[b]
def Zu6:(M++c::N)[Ug M]?=some c:=by simp
def DLs.ga{M:Z2}{lo a:Nat}{kvs:KQ9}{ps:LQ}{b:Nat->Nat}{h:Nat->LQ}(l:DLs M lo kvs ps b h)(f:M[a]?=some (.dct kvs)):GA M a (·∈ps) h:=by intro p c g e F q;let(N,rfl):=e;show ix_d (cD (Z5 f)) rfl (d:= .ref (b p)) ?_ (q _ (cL (Z5 (l.cell p c))));rw[l.eq,Ed,ng c]
def Y53{a:Nat}{gs:List (LQ)}(h:readL M a=some (gs.map λl=> .tup (natD l))):GA M a (· <Ug gs) (λp=>gs.getD p []):=by intro p e f c F q;have b:gs[p]?=some gs[p]:=Aa e;show ix_l (k:=p) (c.L h) (d:= .tup (natD gs[p])) (by rw[Ch,b];rfl) (q _ ?_);change some (natD gs[p])=some (natD (gs.getD p []));rw[Ad,b];rfl
def Js:DSp:=λh M Q _=>∃(a b:Nat) (e:List (LQ)) (c:LQ),h=[.ref a,.ref b]/\readL M a=some (e.map λl=> .tup (natD l))/\readL M b=some (natD c)/\c.Nodup/\(Ug c)<=2000/\(∀p∈c,p<Ug e)/\(∀l∈e,Ug l<=2)/\
 ∀f r d g,Kp M f->(Ug M)<=r->f[r]?=some (.dct d)->DLs f (Ug M) d c g (λp=>(e.getD p []).filter (·∈c))->Q (.ref r) f
def Wi(ps:LQ):LD:=ps.map fun(p:Nat)=> .tup [.int (p:Nat),.bl true]
def Zp{i:Nat}{d:D}(h:(natD ps)[i]?=some d):∃p,ps[i]?=some p/\d= .int (p:Nat):=by ext h natD;rw[Ch,Ig] at h;let(x,a,e):=h;show(x,a,e.symm)
def Y2{a:Type}{ps:List a}{i:Nat}{p:a}(h:ps[i]?=some p):ps.take (i+1)=ps.take i++[p]:=by rw[List.take_add_one,h];rfl
def among{c:Cfg}{a:DEnv}{b i:Nat}(hi:a[i]?=some (↑b))(g:readL M b=some (natD ps))(h:ps.Nodup)(n:Ug ps<=2000)(l:js=[none])
  (q:Q (.ref (Ug M+1)) (M++[.lst (Wi ps)]++[.dct (begD ps)])):te c Z (.bf .dict1 (.cons (.comp N js [0] (.seq (.var i)) .no (.tup (.cons (.var 0) (.cons (.bl true) .nil)))) .nil)) a M Q:=by
 subst l;dsimp only[te,tes,tit];rw[hi];dsimp only[itD];show(_,g,?_);show Zj (λi a f=>∃d,a=[d]/\f=M++[.lst (Wi (ps.take i))]) (none,rfl,rfl) ?_ ?_ ?_
 .rintro i a f _ ⟨d,rfl,rfl⟩;show Z4 g
 .rintro i o a f C j ⟨d,rfl,rfl⟩ m;let(p,k,rfl):=Zp j;rfl';show(Z0 'd',_,cW Zb,by ext Wi;rw[Ai];show Z1 (by simp;lia),?_);show m _ _ (_,rfl,?_);rw[Df _ _ (na _),Nat.sub_self,Y2 k];ext Wi;rw[As];rfl
 .rintro a f ⟨d,rfl,rfl⟩;have e:(natD ps).length=Ug ps:=Z3 _;rw[e,Dj];change bfD _ _ _ _ _;rw[bf_dict];show .inr (ps.map fun(p:Nat)=>(#v[Dw (p:Int),D.bl true]:Key×D),?_,by rw[Ai];show Z1 'o',?_)
  .rw[cL Zb];unfold U.Ys Wi;rw[Hw];rfl
  .rw[Jk h (λ_=> .bl true)];have:(M++[Cell.lst (Wi ps)]).length=Ug M+1:=by simp
   rw[this];show q
def Ym{l:LQ}{i p:Nat}(f:Nat->Bool)(h:l[i]?=some p):(l.take (i+1)).filter f=(l.take i).filter f++(if f p=true then [p] else []):=by
 rw[Y2 h,Lp];by_cases e:f p=true
 .rw[ng e,List.filter_cons_of_pos e];rfl
 .rw[nc e,List.filter_cons_of_neg e];rfl
def te_pair{a:DEnv}{d:D}(h0:a[0]?=some (some d))(h:te c X e a M λy b=>2<=sizeLine/\Q (.tup [d,y]) b):te c X (.tup (.cons (.var 0) (.cons e .nil))) a M Q:=by erw[te,tes,h0];show h
def Zf7{a:DEnv}{d:E}(hi:a[i]?=some (↑b))(e:readL M b=some xs)
  (h:Ry (.lst b) xs [0] (λ_ M P=>P true M) (te c noX d) (Ug M) xs (capD js a) (M++[.lst []]) λf=>bfD c.K .dict1 [.ref (Ug M)] f Q):te c Z (.bf .dict1 (.cons (.comp N js [0] (.seq (.var i)) .no d) .nil)) a M Q:=by
 dsimp only[te,tes,tit];rw[hi];dsimp only[itD];show(_,e,h)
def Y67{c:Cfg}{a j p:Nat}{gs:List (LQ)}(v:readL M a=some (gs.map λl=> .tup (natD l)))(s:M[j]?=some (.dct (begD ps)))(r:p<Ug gs)(w:∀l∈gs,Ug l<=2)
  (q:Q (.ref (Ug M)) (M++[.lst (natD ((gs.getD p []).filter (·∈ps)))])):te c noX (.comp N [none,some 2] [0] (.seq (.ix (.var 1) (.var 0))) (.yes (.cmp .isin (.var 0) (.var 1))) (.var 0)) [some (.int (p:Nat)),↑a,↑j] M Q:=by
 have f:gs[p]?=some gs[p]:=Aa r;have x:gs.getD p []=gs[p]:=by rw[Ad,f];rfl
 have u:=w _ (Am f);rw[x] at q;generalize gs[p]=l at f u q;rfl';show ix_l (k:=p) v (d:= .tup (natD l)) (by rw[Ch,f];rfl) ?_;rfl';erw[capD,Az,Dh,Hg,Dz,Dv,Dr,Hh];show Zj (λi b h=>∃d,b=[d,↑j]/\h=M++[.lst (natD ((l.take i).filter (·∈ps)))]) (none,rfl,rfl) ?_ ?_ ?_
 .rintro i b h _ _;trivial
 .rintro i y b h C o ⟨d,rfl,rfl⟩ n;let(t,m,rfl):=Zp o;rfl';show .inr (.inl (begD ps,_,cD (Z5 s),rfl,?_));rfl';rw[X2];by_cases g:t∈ps
  .rw[ng ↥g];show(_,cW Zb,by rw[Z3];show Z1 (ni (Ha _ _) (by simp;lia)),?_);show n _ _ (_,rfl,?_);rw[Df _ _ (na _),Nat.sub_self,Ym _ m,ng ↥g,Zi];rfl
  .rw[nc ↥g];show n _ _ (_,rfl,?_);rw[Ym _ m,nc ↥g,Hd]
 .rintro b h ⟨d,rfl,rfl⟩;have e:(natD l).length=Ug l:=Z3 _;rw[e,Dj];show q
def Y80{Γ G}:Rd K Γ G Js Tg To:=by
 rintro v M Q Z ⟨a,b,u,c,rfl,F,t,n,E,h,O,q⟩;erw[Tg,To,tss_cons,tss_nil];erw[ts];show among rfl t n E rfl ?_;have g:Kp M (M++[.lst (Wi c)]++[.dct (begD c)]):=(Kp.new _ _).app _;have j:(M++[.lst (Wi c)]++[.dct (begD c)]:Z2)[Ug M+1]?=some (.dct (begD c)):=by have:=@Zb (M++[.lst (Wi c)]) (.dct (begD c));rwa[show(M++[Cell.lst (Wi c)]).length=Ug M+1 by simp] at this
 generalize M++[.lst (Wi c)]++[.dct (begD c)]=M1 at g j;rw[tg_one];show Za ?_;erw[tss_cons,tss_nil,ts];change te _ noX _ [↑a,↑b,some (.ref (Ug M+1))] M1 Q;show Zf7 rfl (g.L t) ?_;have H:∀N:Z2,readL (M1++N) a=some (u.map λl=> .tup (natD l)):=λN=>Z4 (g.L F);have J:∀N:Z2,(M1++N)[Ug M+1]?=some (.dct (begD c)):=λN=>Z5 j;show Zj (λi k m=>∃d,k=[d,↑a,some (.ref (Ug M+1))]/\m=M1++ .lst ((c.take i).map fun(p:Nat)=> .tup [.int (p:Nat),.ref (Ug M1+1+c.idxOf p)])::((c.take i).map λp=> .lst (natD ((u.getD p []).filter (·∈c))))) (none,rfl,rfl) ?_ ?_ ?_
 .rintro i k m _ ⟨d,rfl,rfl⟩;show Z4 (g.L t)
 .rintro i R k m C B ⟨d,rfl,rfl⟩ I;let(p,f,rfl):=Zp B;have o:=Am f;let(x,r):=Ab.mp f;have A:c.idxOf p=i:=by rw[<-r];show ND.Yq n x
  change te _ noX _ [some (.int (p:Nat)),_,_] _ _;show te_pair rfl (Y67 (H _) (J _) (h p o) O ?_);have z:(M1++ .lst ((c.take i).map fun(p:Nat)=> .tup [.int (p:Nat),.ref (Ug M1+1+c.idxOf p)])::((c.take i).map λp=> .lst (natD ((u.getD p []).filter (·∈c)))):Z2).length=Ug M1+1+c.idxOf p:=by rw[A];simp[Nat.min_eq_left (Nat.le_of_lt x)];lia
  rw[z];show(Z0 'd',_,cW (Z5 Zu6),by rw[Ai];show Z1 (by simp;lia),?_);show I _ _ (_,rfl,?_);rw[Y2 f,As,As,Db,Kh,Df _ _ (na _),Nat.sub_self];rfl
 .rintro k m ⟨d,rfl,rfl⟩;have e:(natD c).length=Ug c:=Z3 _;rw[e,Dj];change bfD _ _ _ _ _;rw[bf_dict];show .inr (c.map fun(p:Nat)=>(#v[Dw (p:Int),D.ref (Ug M1+1+c.idxOf p)]:Key×D),?_,by rw[Ai];show Z1 'o',?_)
  .refine(cL Zu6).trans ?_;ext U.Ys;rw[Hw];rfl
  .rw[Jk n];let(P,rfl):=g;show q _ _ _ (λp=>(M++P).length+1+c.idxOf p) (_,by rw[Db,Db]) (by erw[Ag];lia) Zb (rfl,λp h w s e=>?_,λp _=>by erw[Ag];lia,λp h=>Z5 ?_)
   .have:c.idxOf p=c.idxOf w:='o';have y:c[c.idxOf p]'(Dn h)=c[c.idxOf w]'(Dn s):=by congr 1
    rw[Ih,Ih] at y;show y
   .rw[Nat.add_assoc,Dg 'o',Nat.add_sub_cancel_left,Nat.add_comm 1,Dr,Ch,Aa (Dn h),Ih];rfl
def J7(ps:LQ)(f:Nat->D):Xk (ps.map fun(p:Nat)=>(#v[Dw (p:Int),f p]:Key×D))=natD ps:=by unfold Xk natD;rw[Hw];rfl
def Jo{M N:Z2}{a:Nat}{c:Cell}{kvs:KQ9}(h:M[a]?=some (.dct kvs)):(M.set a c++N).set a (.dct kvs)=M++N:=by
 have b:=c_lt h;rw[Lj _ _ ↥b,Lq];congr 1;show Ic λi=>?_;by_cases e:a=i
 .subst e;rw[Ds b,h]
 .rw[Dk e]
structure Tst(M M':Z2)(a fr:Nat)(kvs:KQ9)(ps:LQ)(at2:Nat->Nat)(acc:Nat->LQ):Prop where
 fz:M'[a]?=some (.fdc kvs)
 kp:Kp M (M'.set a (.dct kvs))
 gr:Ug M<=fr
 fd:M'[fr]?=some (.dct (ps.map fun(p:Nat)=>(#v[Dw (p:Int),D.ref (at2 p)]:Key×D)))
 lo:∀p∈ps,Ug M<=at2 p
 inj:∀p∈ps,∀q∈ps,at2 p=at2 q->p=q
 cell:∀p∈ps,M'[at2 p]?=some (.lst (natD (acc p)))
def Tst.put{a f:Nat}{at2:Nat->Nat}{b:Nat->LQ}(h:Tst M j a f kvs ps at2 b)(m:a<Ug M)(c:g∈ps)(l:LQ):
  Tst M (j.set (at2 g) (.lst (natD l))) a f kvs ps at2 (λq=>if q=g then l else b q):=by
 have k:=h.lo g c;have i:=h.cell g c;show(c_ne h.fz 'o',?_,h.gr,c_ne h.fd λe=>?_,h.lo,h.inj,λp d=>?_)
 .rw[List.set_comm _ _ 'o'];show h.kp.set k
 .have:=h.fd;rw[<-e,i] at this;cases this
 .by_cases e:p=g
  .subst e;rw[ng rfl];show Yy i
  .rw[nc e];show c_ne (h.cell p d) λz=>e (h.inj g c p d z).symm
def Tst.old{M d:Z2}{a f i:Nat}{at2:Nat->Nat}{c:Nat->LQ}(h:Tst M d a f kvs ps at2 c)(hi:M[i]?=some (.lst xs)):d[i]?=some (.lst xs):=by
 let(N,e):=h.kp;have b:(d.set a (.dct kvs))[i]?=some (.lst xs):=by rw[e];show Z5 hi
 by_cases z:a=i
 .subst z;rw[Yy h.fz] at b;cases b
 .rw[Dk z] at b;show b
def Z70{a i:Nat}{d:E}(hi:b[i]?=some (↑a))(e:Y7 M a=some kvs)
  (h:Ry (.dct a) (Xk kvs) [0] (λ_ M P=>P true M) (te c noX d) (Ug M) (Xk kvs) (capD js b) (M.set a (.fdc kvs)++[.lst []]) λg=>Zi9 a g λf=>bfD c.K .dict1 [.ref (Ug M)] f Q):te c Z (.bf .dict1 (.cons (.compK N js [0] (.var i) d) .nil)) b M Q:=by
 dsimp only[te,tes];rw[hi];show(kvs,e,h)
def into(h:Nat->LQ)(ps:LQ)(g:Nat):LQ:=ps.flatMap λp=>((h p).filter (·=g)).map λ_=>p
def Nw:∀{ps:LQ},(∀p∈ps,(h p).length<=2)->(into h ps g).length<=2 * (Ug ps)
 | [],_=>nk _
 | p::r,a=>by
  have c:=Nw (ps:=r) (g:=g) λp b=>a p (An _ b);have e:=a p Aw;have d:(((h p).filter (·=g)).map λ_=>p).length<=(h p).length:=by rw[Ai];show Ha _ _
  show(((((h p).filter (·=g)).map λ_=>p))++into h r g).length<=_;rw[Ag,Dy];lia
def Jb:DSp:=λj M Q _=>∃(a i:Nat) (c:KQ9) (b:LQ) (f:Nat->Nat) (h:Nat->LQ),j=[.ref a]/\M[a]?=some (.dct c)/\DLs M i c b f h/\b.Nodup/\(Ug b)<=2000/\(∀p∈b,(h p).length<=2/\∀t∈h p,t∈b)/\
 ∀e r d g,Kp M e->(Ug M)<=r->e[r]?=some (.dct d)->DLs e (Ug M) d b g (into h b)->Q (.ref r) e
def Zh8{Γ G}{a lo o:Nat}{A at2:Nat->Nat}(T:M[a]?=some (.dct kvs))(B:DLs M lo kvs ps A h)(nd:ps.Nodup)(S:∀p∈ps,(h p).length<=2/\∀t∈h p,t∈ps)(hl:Ug ps<=2000)
  (W:Kp M F) (gr:Ug M<=o) (Z:F[o]?=some (.dct (ps.map fun(p:Nat)=>(#v[Dw (p:Int),D.ref (at2 p)]:Key×D)))) (k:∀p∈ps,Ug M<=at2 p) (v:∀p∈ps,∀q∈ps,at2 p=at2 q->p=q) (cl:∀p∈ps,F[at2 p]?=some (.lst (natD [])))
  (q:∀b r u at2,Kp M b->(Ug M)<=r->b[r]?=some (.dct u)->DLs b (Ug M) u ps at2 (into h ps)->Q (.ref r) b):
  tss (K,Γ,G) noX (.cons (.forK [2] (.var 0) Sz) Sn) {nx:=λ_ M=>Q .non M,rt:=Q} [↑a,↑o,none,none] F:=by
 have U:=c_lt T;have R:Xk kvs=natD ps:=by rw[B.eq];show J7 _ _
 let(O,rfl):=W;have L:(M++O)[a]?=some (.dct kvs):=Z5 T;erw[tss_cons,ts];change te _ noX _ _ _ _;dsimp only[te,Dv];show(kvs,cD L,?_);rw[R];show Y5 (λi f b=>∃E n,f=[↑a,↑o,E,n]/\Tst M b a o kvs ps at2 (into h (ps.take i))) (none,none,rfl,?_) ?_ ?_ ?_
 .have e0:((M++O).set a (.fdc kvs)).set a (.dct kvs)=M++O:=by have:=Jo (N:=[]) (c:= .fdc kvs) L;rwa[Hd,Hd] at this
  show(Ds (c_lt L),by rw[e0];show Kp.new _ _,gr,c_ne Z 'o',k,v,λp s=>c_ne (cl p s) (by have:=k p s;lia))
 .rintro i f b _ ⟨E,n,rfl,t⟩;show(kvs,t.fz,R.symm)
 .rintro i dx f b C H ⟨E,n,rfl,t⟩ Y;let(p,x,rfl):=Zp H;have l:=Am x;let(X,I):=S p l;rw[tg_one];erw[Sz,tss_cons,tss_nil,ts,tit];dsimp only[te,List.set_cons_succ,List.set_cons_zero,Dv,Dr];show ix_f t.fz rfl (d:= .ref (A p)) (by rw[B.eq,Ed,ng l]) ?_;show(_,cL (t.old (B.cell p l)),?_);show Y5 (λj f b=>∃n,f=[↑a,↑o,some (.int (p:Nat)),n]/\Tst M b a o kvs ps at2 (λg=>into h (ps.take i) g++(((h p).take j).filter (·=g)).map λ_=>p)) (_,rfl,↥t) ?_ ?_ ?_
  .rintro j f b _ ⟨n,rfl,t⟩;show cL (t.old (B.cell p l))
  .rintro j dx f b C2 H ⟨n,rfl,t⟩ J;let(g,y,rfl):=Zp H;have m:=I g (Am y);rw[tg_one];delta Oa;rfl';show ix_d (cD t.fd) rfl (d:= .ref (at2 g)) (by rw[Ed,ng m]) ?_;rfl';have V:(into h (ps.take i) g).length<=2 * (ps.take i).length:=Nw λp s=>(S p (List.mem_of_mem_take s)).1;have l2:((((h p).take j).filter (·=g)).map λ_=>p).length<=(h p).length:=by rw[Ai];show ni (Ha _ _) (by simp;lia)
   rw[Hz] at V;show(Z8 (cL (t.cell g m)),_,cW (t.cell g m),by rw[Z3,Ag];show Z1 'o',?_);show J _ _ (_,rfl,?_);rw[<-Zi];have P:=t.put U m (into h (ps.take i) g++((((h p).take j).filter (·=g)).map λ_=>p)++[p]);have e:(λq=>if q=g then into h (ps.take i) g++((((h p).take j).filter (·=g)).map λ_=>p)++[p] else into h (ps.take i) q++(((h p).take j).filter (·=q)).map λ_=>p)=λq=>into h (ps.take i) q++(((h p).take (j+1)).filter (·=q)).map λ_=>p:=by
    funext z;rw[Ym _ y,As];by_cases e:z=g
    .subst e;rw[ng rfl,ng 's',Db];rfl
    .rw[nc e,nc (by simpa using λw=>e w.symm),Dh,Hd]
   rw[e] at P;show P
  .rintro f b ⟨n,rfl,t⟩;show Y _ _ (_,_,rfl,?_);rw[Z3,Dj] at t;have e:into h (ps.take (i+1))=λg=>into h (ps.take i) g++((h p).filter (·=g)).map λ_=>p:=by funext g;ext into;rw[Y2 x,List.flatMap_append];simp
   rw[e];show t
 .rintro f b ⟨E,n,rfl,t⟩;rw[Z3,Dj] at t;show(kvs,t.fz,?_);show Za ?_;erw[Sn,tss_cons,tss_nil,ts];dsimp only[te,Dv,Dr];show q _ o _ at2 t.kp gr (c_ne t.fd 'o') (rfl,v,k,λp s=>c_ne (t.cell p s) (by have:=k p s;lia))
def Zs5{Γ G}:Rd K Γ G Jb Z14 B8:=by
 rintro u M Q Z ⟨a,S,c,b,R,h,rfl,j,F,l,N,O,q⟩;have y:Xk c=natD b:=by rw[F.eq];show J7 _ _
 have x:=c_lt j;erw[Z14,B8,tss_cons,tss_nil,ts];show Z70 rfl (cD j) ?_;rw[y];show Zj (λi g k=>∃d,g=[d]/\k=M.set a (.fdc c)++ .lst ((b.take i).map fun(p:Nat)=> .tup [.int (p:Nat),.ref (Ug M+1+b.idxOf p)])::((b.take i).map λ_=> .lst (natD []))) (none,rfl,rfl) ?_ ?_ ?_
 .rintro i g k _ ⟨d,rfl,rfl⟩;show(c,Z5 (Ds x),y.symm)
 .rintro i T g k C L ⟨d,rfl,rfl⟩ P;let(p,f,rfl):=Zp L;let(A,o):=Ab.mp f;have J:b.idxOf p=i:=by rw[<-o];show ND.Yq l A
  change te _ noX _ [some (.int (p:Nat))] _ _;show te_pair rfl ?_;dsimp only[te,tes];have I:(M.set a (.fdc c)++ .lst ((b.take i).map fun(p:Nat)=> .tup [.int (p:Nat),.ref (Ug M+1+b.idxOf p)])::((b.take i).map λ_=> .lst (natD [])):Z2).length=Ug M+1+b.idxOf p:=by rw[J];simp[Nat.min_eq_left (Nat.le_of_lt A)];lia
  rw[I];have w:Ug M=(M.set a (.fdc c)).length:=by simp
  show(Z0 'd',Z0 'd',_,cW (Z5 (by rw[w];show Zu6)),by rw[Ai];show Z1 (by simp;lia),?_);show P _ _ (_,rfl,?_);rw[Y2 f,As,As,Db,Kh];rw[w,Df _ _ (na _),Nat.sub_self];rfl
 .rintro g k ⟨d,rfl,rfl⟩;have e:(natD b).length=Ug b:=Z3 _;rw[e,Dj];show(c,Z5 (Ds x),?_);rw[Jo j];change bfD _ _ _ _ _;rw[bf_dict];show .inr (b.map fun(p:Nat)=>(#v[Dw (p:Int),D.ref (Ug M+1+b.idxOf p)]:Key×D),?_,by rw[Ai];show Z1 'o',?_)
  .refine(cL Zu6).trans ?_;ext U.Ys;rw[Hw];rfl
  rw[Jk l];have z:Kp M (M++ .lst (b.map fun(p:Nat)=> .tup [.int (p:Nat),.ref (Ug M+1+b.idxOf p)])::(b.map λ_=> .lst (natD []))++[.dct (b.map fun(p:Nat)=>(#v[Dw (p:Int),D.ref (Ug M+1+b.idxOf p)]:Key×D))]):=(_,Db _ _ _);have t:(M++ .lst (b.map fun(p:Nat)=> .tup [.int (p:Nat),.ref (Ug M+1+b.idxOf p)])::(b.map λ_=> .lst (natD []))++[.dct (b.map fun(p:Nat)=>(#v[Dw (p:Int),D.ref (Ug M+1+b.idxOf p)]:Key×D))]:Z2)[(M++ .lst (b.map fun(p:Nat)=> .tup [.int (p:Nat),.ref (Ug M+1+b.idxOf p)])::(b.map λ_=> .lst (natD [])):Z2).length]?=_:=Zb;have H:∀p∈b,(M++ .lst (b.map fun(p:Nat)=> .tup [.int (p:Nat),.ref (Ug M+1+b.idxOf p)])::(b.map λ_=> .lst (natD []))++[.dct (b.map fun(p:Nat)=>(#v[Dw (p:Int),D.ref (Ug M+1+b.idxOf p)]:Key×D))]:Z2)[Ug M+1+b.idxOf p]?=some (.lst (natD [])):=λp s=>by show Z5 ?_;rw[Nat.add_assoc,Dg 'o',Nat.add_sub_cancel_left,Nat.add_comm 1,Dr,Ch,Aa (Dn s)];rfl
  have E:Ug M<=(M++ .lst (b.map fun(p:Nat)=> .tup [.int (p:Nat),.ref (Ug M+1+b.idxOf p)])::(b.map λ_=> .lst (natD [])):Z2).length:=by rw[Ag];lia
  generalize (M++ .lst (b.map fun(p:Nat)=> .tup [.int (p:Nat),.ref (Ug M+1+b.idxOf p)])::(b.map λ_=> .lst (natD []))++[.dct (b.map fun(p:Nat)=>(#v[Dw (p:Int),D.ref (Ug M+1+b.idxOf p)]:Key×D))]:Z2)=M1 at z t H |-;generalize (M++ .lst (b.map fun(p:Nat)=> .tup [.int (p:Nat),.ref (Ug M+1+b.idxOf p)])::(b.map λ_=> .lst (natD [])):Z2).length=fr at t E |-;have n:∀p∈b,∀q∈b,Ug M+1+b.idxOf p=Ug M+1+b.idxOf q->p=q:=λp s v r e=>by
   have:b.idxOf p=b.idxOf v:='o';have B:b[b.idxOf p]'(Dn s)=b[b.idxOf v]'(Dn r):=by congr 1
   rw[Ih,Ih] at B;show B
  have m:∀p∈b,Ug M<=Ug M+1+b.idxOf p:=λp _=>by lia
  rw[tg_one];show Za ?_;show Zh8 (at2:=λp=>(Ug M)+1+b.idxOf p) j F l O N z E t m n H q
def cst(gf:Nat->LQ)(T0:LQ)(z:List Nat×LQ):List Nat×LQ:=match z.2.getLast? with
 | none=>z
 | some p=>if p∈T0++z.1 then#v[z.1,z.2.dropLast] else#v[z.1++[p],z.2.dropLast++gf p]
def cit(gf:Nat->LQ)(T0:LQ):Nat->List Nat×LQ->List Nat×LQ
 | 0,z=>z
 | k+1,z=>cst gf T0 (cit gf T0 k z)
def Zf3:∀k,cit gf T0 k #v[R,[]]=#v[R,[]]
 | 0=>rfl
 | k+1=>by change cst gf T0 (cit gf T0 k _)=_;rw[Zf3 k];rfl
def Ze4(j:Nat)(z:List Nat×LQ):∀k,cit gf T0 (k+j) z=cit gf T0 k (cit gf T0 j z)
 | 0=>by rw[Nat.zero_add];rfl
 | k+1=>by rw[show k+1+j=k+j+1 by lia];change cst gf T0 _=cst gf T0 _;rw[Ze4 j z k]
structure CT(gf:Nat->LQ)(T0 starts R:LQ):Prop where
 nd:(T0++R).Nodup
 src:∀(i p:Nat),R[i]?=some p->p∈starts\/∃j q:Nat,j<i/\R[j]?=some q/\p∈gf q
 st:∀x∈starts,x∈T0\/x∈R
 cl:∀q∈R,∀t∈gf q,t∈T0\/t∈R
 mc:∃k,cit gf T0 k #v[[],starts]=#v[R,[]]
structure CI(gf:Nat->LQ)(T0 starts R L:LQ):Prop where
 nd:(T0++R).Nodup
 src:∀(i p:Nat),R[i]?=some p->p∈starts\/∃j q:Nat,j<i/\R[j]?=some q/\p∈gf q
 st:∀x∈starts,x∈T0\/x∈R\/x∈L
 cl:∀q∈R,∀t∈gf q,t∈T0\/t∈R\/t∈L
 lf:∀x∈L,x∈starts\/∃(j q:Nat),R[j]?=some q/\x∈gf q
 mc:∃k,cit gf T0 k #v[[],starts]=#v[R,L]
def CT.uniq(h:CT gf T0 starts R)(k:CT gf T0 starts c):R=c:=by
 let(a,g):=h.mc;let(b,f):=k.mc;have d:∀{a b:Nat} {R c:LQ},a<=b->cit gf T0 a #v[[],starts]=#v[R,[]]->cit gf T0 b #v[[],starts]=#v[c,[]]->R=c:=by intro a b R c e g f;have:=Ze4 (gf:=gf) (T0:=T0) a #v[[],starts] (b - a);rw[show b - a+a=b by lia,g,Zf3,f] at this;show(congrArg Prod.fst this).symm
 rcases Nat.le_total a b with e|e
 .show d e g f
 .exact(d e f g).symm
section
variable{gf:Nat->LQ}{T0 starts R L:LQ}{p:Nat}
def CI.begin(h:T0.Nodup):CI gf T0 starts [] starts:=(↥h,λi p h=>by simp at h,λx a=> .inr (.inr a),λq b=>by simp at b,λx a=> .inl a,0,rfl)
def CI.fin(h:CI gf T0 starts R []):CT gf T0 starts R:=(h.nd,h.src,λx a=>(h.st x a).imp id λz=>z.elim id λz=>by simp at z,λq c t b=>(h.cl q c t b).imp id λz=>z.elim id λz=>by simp at z,h.mc)
def CI.skip(h:CI gf T0 starts R (L++[p]))(c:p∈T0++R):CI gf T0 starts R L:=by
 have b:∀x,(x∈T0\/x∈R\/x∈L++[p])->x∈T0\/x∈R\/x∈L:=λx a=>by
  rcases a with a|a|a
  .show .inl a
  .show .inr (.inl a)
  .rcases Ap.mp a with a|a
   .show .inr (.inr a)
   .rw[Af] at a;subst a;show(Ap.mp c).imp id .inl
 show(h.nd,h.src,λx a=>b x (h.st x a),λq f t d=>b t (h.cl q f t d),λx a=>h.lf x (Ax _ a),?_);let(k,e):=h.mc;show(k+1,?_);change cst gf T0 (cit gf T0 k _)=_;rw[e];ext cst;rw[List.getLast?_concat];show(if p∈T0++R then _ else _)=_;rw[ng c,Kn]
def CI.take(h:CI gf T0 starts R (L++[p]))(o:p∉T0++R):CI gf T0 starts (R++[p]) (L++gf p):=by
 have g:∀x,(x∈T0\/x∈R\/x∈L++[p])->x∈T0\/x∈R++[p]\/x∈L++gf p:=λx b=>by
  rcases b with b|b|b
  .show .inl b
  .show .inr (.inl (Ax _ b))
  .rcases Ap.mp b with b|b
   .show .inr (.inr (Ax _ b))
   .show .inr (.inl (Dm _ b))
 have d:∀(j q:Nat),R[j]?=some q->(R++[p])[j]?=some q:=λj q e=>by rw[De (Ab.mp e).1];show e
 show(?_,λi x e=>?_,λx b=>g x (h.st x b),λq f t n=>?_,λx b=>?_,?_)
 .rw[<-Db];show Dt.mpr (h.nd,by simp,λa u c r=>by rw[Af] at r;subst r;show λz=>o (z ▸ u))
 .by_cases s:i<Ug R
  .rw[De s] at e;rcases h.src i x e with z|⟨j,q,h1,h2,h3⟩
   .show .inl z
   .show .inr (j,q,h1,d j q h2,h3)
  .have m:=e;rw[Dg 'o'] at m;have l:i=Ug R:=by have:=(Ab.mp e).1;simp at this;lia
   subst l;simp at m;subst m;rcases h.lf p 's' with z|⟨j,q,h2,h3⟩
   .show .inl z
   .show .inr (j,q,(Ab.mp h2).1,d j q h2,h3)
 .rcases Ap.mp f with f|f
  .show g t (h.cl q f t n)
  .rw[Af] at f;subst f;show .inr (.inr (Dm _ n))
 .rcases Ap.mp b with b|b
  .rcases h.lf x (Ax _ b) with z|⟨j,q,h2,h3⟩
   .show .inl z
   .show .inr (j,q,d j q h2,h3)
  .show .inr (Ug R,p,by simp,b)
 .let(k,e):=h.mc;show(k+1,?_);change cst gf T0 (cit gf T0 k _)=_;rw[e];ext cst;rw[List.getLast?_concat];show(if p∈T0++R then _ else _)=_;rw[nc o,Kn]
end
structure Cst(M M':Z2)(tk o l:Nat)(T0 R L:LQ):Prop where
 kp:Kp M (M'.set tk (.dct (begD T0)))
 ht:M'[tk]?=some (.dct (begD (T0++R)))
 ho:M'[o]?=some (.lst (natD R))
 hl:M'[l]?=some (.lst (natD L))
 no:Ug M<=o
 nl:Ug M<=l
 ol:o≠l
section
variable{M M':Z2}{tk o l:Nat}{T0 R L:LQ}
def Cst.put(h:Cst M M' tk o l T0 R L)(b:tk<Ug M)(a:LQ):Cst M (M'.set l (.lst (natD a))) tk o l T0 R a:=by have:=h.nl;show(?_,c_ne h.ht 'o',c_ne h.ho h.ol.symm,Yy h.hl,h.no,h.nl,h.ol);rw[List.set_comm _ _ 'o'];show h.kp.set h.nl
def Cst.take(h:Cst M M' tk o l T0 R L)(a:tk<Ug M)(p:Nat):Cst M ((M'.set tk (.dct (begD (T0++R++[p])))).set o (.lst (natD (R++[p])))) tk o l T0 (R++[p]) L:=by
 have:=h.nl;have:=h.no;show(?_,?_,Yy (c_ne h.ho 'o'),c_ne (c_ne h.hl 'o') h.ol,h.no,h.nl,h.ol)
 .rw[List.set_comm _ _ 'o',Lq];show h.kp.set h.no
 .rw[<-Db];show c_ne (Yy h.ht) 'o'
def Cst.app(h:Cst M M' tk o l T0 R L)(a:tk<Ug M)(N:Z2):Cst M (M'++N) tk o l T0 R L:=by show(?_,Z5 h.ht,Z5 h.ho,Z5 h.hl,h.no,h.nl,h.ol);rw[Lj _ _ (c_lt h.ht)];show h.kp.app N
def Cst.old(h:Cst M M' tk o l T0 R L)(hi:M[i]?=some c)(b:tk≠i):M'[i]?=some c:=by
 let(N,e):=h.kp;have a:(M'.set tk (.dct (begD T0)))[i]?=some c:=by rw[e];show Z5 hi
 rw[Dk b] at a;show a
end
def Ee:DSp:=λl M Q _=>∃(a j e k n:Nat) (f:KQ9) (c b d:LQ) (i:Nat->Nat) (h:Nat->LQ),l=[.ref a,.ref j,.ref e]/\M[a]?=some (.dct f)/\DLs M k f c i h/\c.Nodup/\(Ug c)<=1000/\(∀p∈c,(h p).length<=2000/\∀t∈h p,t∈c)/\
 readL M j=some (natD b)/\(Ug b)<=1000/\(∀x∈b,x∈c)/\M[e]?=some (.dct (begD d))/\d.Nodup/\(Ug d)<=1000/\a≠e/\
 ∀R g r,CT h d b R->(∀p∈R,p∈c)->Kp M (g.set e (.dct (begD d)))->g[e]?=some (.dct (begD (d++R)))->g[r]?=some (.lst (natD R))->(Ug M)<=r->Q (.ref r) g
def Yg3{Γ G}:Rd K Γ G Ee Ei Fg:=by
 rintro J M Q Z ⟨a,Y,l,lo,n,y0,j,b,f,w,h,rfl,ha,O,nd,hl,hh,E,x0,F,e,C,z0,P,q⟩;have y:=c_lt e;delta Ei Fg;rfl';show(Z0 'd',_,Z4 E,?_);have V:(M++[Cell.lst []]).length=Ug M+1:=by simp
 have U:Cst M (M++[.lst []]++[.lst (natD b)]) l (Ug M) (Ug M+1) f [] b:=by
  have e0:(M++[Cell.lst []]++[Cell.lst (natD b)]).set l (.dct (begD f))=M++[.lst []]++[.lst (natD b)]:=by have:=Jo (N:=[]) (c:= .dct (begD f)) (Z5 (Z5 e):(M++[Cell.lst []]++[Cell.lst (natD b)])[l]?=_);rwa[Hd,Hd,Lq] at this
  show(by rw[e0];show(_,Db _ _ _),?_,Z5 Zb,?_,na _,'o','o')
  .rw[Hd];show Z5 (Z5 e)
  .rw[<-V];show Zb
 rw[V];generalize M++[.lst []]++[.lst (natD b)]=M1 at U |-;show(λm T S=>∃R L W,m=(Ug j - (Ug R)) * 2001+Ug L/\T=[↑a,↑Y,↑l,↑(Ug M),some (.ref (Ug M+1)),W]/\Cst M S l (Ug M) (Ug M+1) f R L/\CI h f b R L/\(∀p∈R,p∈j)/\(∀p∈L,p∈j)/\(Ug L)<=1000+2000 * (Ug R),(_,[],b,none,rfl,rfl,U,CI.begin C,by simp,F,by simp;lia),?_);rintro m T S ⟨R,L,W,rfl,rfl,s,B,A,I,ll⟩;rfl';show(Z0 'd',?_);show Xx (Z4 (cL s.hl)) (cL Zb) ?_;have i:=s.app y [.lst []];generalize S++[.lst []]=M2 at i |-;by_cases k:L=[]
 .subst k;rw[nc 's'];delta Qo;rfl';show q R M2 (Ug M) B.fin A i.kp i.ht i.ho (na _)
 .obtain⟨L,p,rfl⟩:∃L' p,L=L'++[p]:=(L.dropLast,L.getLast k,(Ib k).symm);rw[ng 's'];delta Pc;rfl';have t:p∈j:=I p 's';have lR:Ug R<=Ug j:=Ay (Dt.mp B.nd).2.1 A;show(Z8 (cL i.hl),_,.int (p:Nat),cW i.hl,by rw[Zi];simp,?_);rw[Zi,Kn];have g:=i.put y L;generalize M2.set (Ug M+1) (.lst (natD L))=M3 at g |-;show .inr (.inl (begD (f++R),_,cD g.ht,rfl,?_));rfl';rw[X2];rw[Ag,Au] at ll;by_cases u:p∈f++R
  .rw[decide_eq_true u];rw[nc 'd'];show(_,by rw[Ag,Au];lia,R,L,_,rfl,rfl,g,B.skip u,A,λx r=>I x (Ax _ r),'o')
  .rw[mm u];rw[ng rfl];have v:∀x∈R++[p],x∈j:=λx r=>(Ap.mp r).elim (A x) λz=>by rw[Af] at z;subst z;show t
   have X:=B.take u;have D:(R++[p]).length<=Ug j:=Ay (Dt.mp X.nd).2.1 v;rw[Ag,Au] at D;show .inr (begD (f++R),_,cD g.ht,rfl,by rw[Wb,Ag];show Z1 'o',?_);rw[Xi u];show(Z8 (cL (c_ne g.ho 'o')),_,cW (c_ne g.ho 'o'),by rw[Z3];show Z1 'o',?_);rw[<-Zi];have o:=g.take y p;generalize (M3.set l (.dct (begD (f++R++[p])))).set (Ug M) (.lst (natD (R++[p])))=M4 at o |-;let(w0,H):=hh p t;have ca:M4[w p]?=some (.lst (natD (h p))):=o.old (O.cell p t) (c_dl e (O.cell p t));show(Z8 (cL o.hl),ix_d (cD (o.old ha P.symm)) rfl (d:= .ref (w p)) (by rw[O.eq,Ed,ng t]) ?_);rfl';show(_,_,cW o.hl,cW ca,by rw[Z3,Z3];show Z0 'o',?_);rw[<-Yu];show(_,?_,R++[p],L++h p,_,rfl,rfl,o.put y (L++h p),X,v,λx r=>(Ap.mp r).elim (λz=>I x (Ax _ z)) (H x),by erw[Ag,Au];lia);erw[Ag,Au];lia
def but{a:DEnv}(hi:a[i]?=some (↑b))(n:a[j]?=some (some (.int (f:Nat))))(g:readL M b=some (natD xs))(p:Ug xs<=2000)
  (q:Q (.ref (Ug M)) (M++[.lst (natD (xs.filter (·≠f)))])):te c Z (.comp N [none,some j] [0] (.seq (.var i)) (.yes (.cmp .ne (.var 0) (.var 1))) (.var 0)) a M Q:=by
 dsimp only[te,tit];rw[hi];dsimp only[itD];show(_,g,?_);have o:capD [none,some j] a=[none,some (.int (f:Nat))]:=by erw[capD,Az,Dh,Hg,Dz,n,Hh]
 rw[o];show Zj (λi a h=>∃d,a=[d,some (.int (f:Nat))]/\h=M++[.lst (natD ((xs.take i).filter (·≠f)))]) (none,rfl,rfl) ?_ ?_ ?_
 .rintro i a h _ ⟨d,rfl,rfl⟩;show Z4 g
 .rintro i r a h C m ⟨d,rfl,rfl⟩ l;let(t,k,rfl):=Zp m;rfl';by_cases g:t=f
  .rw[nc (by simpa using λz:¬((t:Int)=(f:Int))=>z 'o')];show l _ _ (_,rfl,?_);rw[Ym _ k,nc ↥g,Hd]
  .rw[ng (by simpa using λz:(t:Int)=(f:Int)=>g 'o')];show(_,cW Zb,by rw[Z3];show Z1 (ni (Ha _ _) (by simp;lia)),?_);show l _ _ (_,rfl,?_);rw[Df _ _ (na _),Nat.sub_self,Ym _ k,ng ↥g,Zi];rfl
 .rintro a h ⟨d,rfl,rfl⟩;have e:(natD xs).length=Ug xs:=Z3 _;rw[e,Dj];show q
def te_call3{e d b:E}{a:DEnv}{sp:DSp}(g:c.Γ[f]?=some sp)(h:te c X e a M λx k=>te c X d a k λy j=>te c X b a j λz i=>sp [x,y,z] i Q X):te c X (.call f (.cons e (.cons d (.cons b .nil)))) a M Q:=by erw[te,tes,g];show h
def te_vv{x y:D}{a:DEnv}{sp:DSp}(d:c.Γ[f]?=some sp)(hi:a[i]?=some (some x))(b:a[j]?=some (some y))(h:sp [x,y] M Q X):te c X (.call f (.cons (.var i) (.cons (.var j) .nil))) a M Q:=by erw[te,tes,d,hi,b];show h
def DLs.app{M:Z2}{lo:Nat}{kvs:KQ9}{ps:LQ}{a:Nat->Nat}{h:Nat->LQ}(l:DLs M lo kvs ps a h)(N:Z2):DLs (M++N) lo kvs ps a h:=(l.eq,l.inj,l.lo,λp b=>Z5 (l.cell p b))
def amg(gs:List (LQ))(a:LQ)(p:Nat):LQ:=(gs.getD p []).filter (·∈a)
def Sc:DSp:=λi M Q _=>∃(a b d f:Nat) (g:List (LQ)) (e c:LQ),i=[.ref a,.ref b,.ref d,.int (f:Nat)]/\readL M a=some (g.map λl=> .tup (natD l))/\readL M b=some (natD e)/\e.Nodup/\(Ug e)<=1000/\(∀p∈e,p<Ug g)/\(∀l∈g,Ug l<=2)/\
 readL M d=some (natD c)/\(Ug c)<=1000/\(∀x∈c,x∈e)/\
 ∀R h r,CT (amg g (e.filter (·≠f))) [] (c.filter (·≠f)) R->(∀p∈R,p∈e/\p≠f)->Kp M h->h[r]?=some (.lst (natD R))->(Ug M)<=r->Q (.ref r) h
def Y69{Γ G}(g4:Γ[4]?=some Js)(g6:Γ[6]?=some Ee):Rd K Γ G Sc Ri Rl:=by
 rintro C M Q Z ⟨a,b,d,f,s,j,c,rfl,ha,hb,H,lt,O,P,B,ld,u,q⟩;erw[Ri,Rl,tss_cons,tss_nil];erw[U.ts];show but rfl rfl hb 'o' ?_;rw[tg_one];show Za ?_;erw[tss_cons,tss_nil,U.ts];have m:Kp M (M++[.lst (natD (j.filter (·≠f)))]):=Kp.new _ _;have S:(M++[.lst (natD (j.filter (·≠f)))]:Z2)[Ug M]?=some (.lst (natD (j.filter (·≠f)))):=Zb;have e1:(M++[Cell.lst (natD (j.filter (·≠f)))]).length=Ug M+1:=by simp
 generalize M++[.lst (natD (j.filter (·≠f)))]=M1 at m S e1 |-;change te _ noX (.call _ (.cons (.call _ (.cons (.var 0) (.cons (.var 4) .nil))) (.cons (.comp _ _ _ _ _ _) (.cons .dict0 .nil)))) [↑a,↑b,↑d,some (.int (f:Nat)),↑(Ug M)] M1 Q;have k:∀{x:Nat} {l:LQ},x∈l.filter (·≠f)↔x∈l/\x≠f:=fun{x l}=>by rw[Di];simp
 have T:∀l:LQ,(l.filter (·≠f)).length<=Ug l:=λl=>Ha _ _;have l1:=T j;have l2:=T c;show te_call3 g6 (te_vv g4 rfl rfl (a,Ug M,s,j.filter (·≠f),rfl,m.L ha,cL S,H.filter _,'o',λp g=>O p (k.mp g).1,P,λh r w D n lr J dl=>?_));show but rfl rfl (n.L (m.L B)) 'o' ?_;have k3:Kp M (h++[.lst (natD (c.filter (·≠f)))]++[.dct []]):=((m.trans n).app _).app _;have W:Ug h< (h++[Cell.lst (natD (c.filter (·≠f)))]).length:=by simp
 have X:Ug M1<=Ug h:=by let(N,rfl):=n;rw[Ag];lia
 change Ee [.ref r,.ref (Ug h),.ref (h++[Cell.lst (natD (c.filter (·≠f)))]).length] (h++[Cell.lst (natD (c.filter (·≠f)))]++[.dct []]) Q noX;show(r,Ug h,_,_,0,w,j.filter (·≠f),c.filter (·≠f),[],D,amg s (j.filter (·≠f)),rfl,Z5 (Z5 J),(dl.app _).app _,H.filter _,'o',λp g=>(?_,λt o=>?_),cL (Z5 Zb),'o',λx I=>k.mpr (u x (k.mp I).1,(k.mp I).2),Zb,List.nodup_nil,by simp,λe=>?_,λR F V ct hR Y o y v=>?_)
 .refine ni (Ha _ _) ?_;have A:=O p (k.mp g).1;rw[Ad,Aa A];have:=P s[p] (He _);change s[p].length<=2000;lia
 .have:=(Di.mp o).2;simpa using this
 .have:=c_lt J;lia
 .refine q R F V ct (λp g=>k.mp (hR p g)) ?_ y ?_
  .let(N,e):=Y;have e2:(h++[Cell.lst (natD (c.filter (·≠f)))]).length=Ug h+1:=by simp
   let(E,rfl):=m.trans n;have h5:F=(F.set (M++E++[Cell.lst (natD (c.filter (·≠f)))]).length (.dct (begD []))).set (M++E++[Cell.lst (natD (c.filter (·≠f)))]).length (.dct (begD ([]++R))):=by
    rw[Lq];show Ic λi=>?_;by_cases z:(M++E++[Cell.lst (natD (c.filter (·≠f)))]).length=i
    .subst z;rw[Ds (c_lt o),o]
    .rw[Dk z]
   rw[h5,e];show Kp.set (_,by rw[Db,Db,Db]) (by erw[Ag];lia)
  .let(N,e):=k3;have:=congrArg Ug e;erw[Ag] at this v;lia
def Z53{B:LQ}{y:Nat}(h:y∈B):putD (begD B) (Dw (y:Int)) (.bl true)=begD B:=by
 ext putD;rw[ng]
 .unfold begD;rw[Hw];show Hu λx a=>?_;show(if (Dw (x:Int):Key)=Dw (y:Int) then#v[Dw (x:Int),D.bl true] else#v[Dw (x:Int),D.bl true])=_;split<;>rfl
 .show Lo.mpr (#v[Dw (y:Int),.bl true],Ar.mpr (y,h,rfl),by simp)
def kept{a:DEnv}(hi:a[i]?=some (↑b))(o:a[j]?=some (↑g))(f:readL M b=some (natD xs))(n:M[g]?=some (.dct (begD B)))(r:Ug xs<=2000)
  (q:Q (.ref (Ug M)) (M++[.lst (natD (xs.filter (·∈B)))])):te c Z (.comp N [none,some j] [0] (.seq (.var i)) (.yes (.cmp .isin (.var 0) (.var 1))) (.var 0)) a M Q:=by
 dsimp only[te,tit];rw[hi];dsimp only[itD];show(_,f,?_);have p:capD [none,some j] a=[none,↑g]:=by erw[capD,Az,Dh,Hg,Dz,o,Hh]
 rw[p];show Zj (λi a h=>∃d,a=[d,↑g]/\h=M++[.lst (natD ((xs.take i).filter (·∈B)))]) (none,rfl,rfl) ?_ ?_ ?_
 .rintro i a h _ ⟨d,rfl,rfl⟩;show Z4 f
 .rintro i s a h C m ⟨d,rfl,rfl⟩ l;let(t,k,rfl):=Zp m;rfl';show .inr (.inl (begD B,_,cD (Z5 n),rfl,?_));rfl';rw[X2];by_cases f:t∈B
  .rw[ng ↥f];show(_,cW Zb,by rw[Z3];show Z1 (ni (Ha _ _) (by simp;lia)),?_);show l _ _ (_,rfl,?_);rw[Df _ _ (na _),Nat.sub_self,Ym _ k,ng ↥f,Zi];rfl
  .rw[nc ↥f];show l _ _ (_,rfl,?_);rw[Ym _ k,nc ↥f,Hd]
 .rintro a h ⟨d,rfl,rfl⟩;have e:(natD xs).length=Ug xs:=Z3 _;rw[e,Dj];show q
def Nq:DSp:=λf M Q _=>∃(a b:Nat) (d:List (LQ)) (c:LQ),f=[.ref a,.ref b]/\readL M a=some (d.map λl=> .tup (natD l))/\readL M b=some (natD c)/\c.Nodup/\(Ug c)<=1000/\(Ug d)<=1000/\(∀l∈d,Ug l<=2)/\
 ∀(B:LQ) e r,(∀x,x∈B↔x=0\/∃p,p<Ug d/\p∉c/\x∈d.getD p [])->Kp M e->e[r]?=some (.lst (natD (c.filter λx=>decide (x∈B))))->(Ug M)<=r->Q (.ref r) e
def X7{n i:Nat}{d:D}(h:(Wg 0 n)[i]?=some d):i<n/\d= .int (i:Nat):=by ext h Wg;rw[Ch,Ig] at h;let(k,c,rfl):=h;let(b,a):=Ab.mp c;rw[List.getElem_range] at a;subst a;show(↥b,?_);rw[Int.zero_add]
def Xf(n:Nat):(Wg 0 n).length=n:=by ext Wg;simp
def Y98{Γ G}:Rd K Γ G Nq O7 Py:=by
 rintro I M Q Z ⟨a,b,r,c,rfl,P,u,T,lt,lg,h,q⟩;erw[O7,Py,tss_cons,tss_nil];erw[U.ts];show among rfl u T 'o' rfl ?_;have y:Kp M (M++[.lst (Wi c)]++[.dct (begD c)]):=(Kp.new _ _).app _;have A:(M++[.lst (Wi c)]++[.dct (begD c)]:Z2)[Ug M+1]?=some (.dct (begD c)):=by have:=@Zb (M++[.lst (Wi c)]) (.dct (begD c));rwa[show(M++[Cell.lst (Wi c)]).length=Ug M+1 by simp] at this
 have N:(M++[Cell.lst (Wi c)]++[Cell.dct (begD c)]).length=Ug M+2:=by simp
 generalize M++[.lst (Wi c)]++[.dct (begD c)]=M1 at y A N |-;rw[tg_one];show Za ?_;rfl';show(cD Zb,?_);have Y:(M1++[Cell.dct []]).set (Ug M1) (.dct [#v[Dw 0,.bl true]])=M1++[.dct (begD [0])]:=by rw[Df _ _ (na _),Nat.sub_self];rfl
 rw[Y];show Za ?_;rfl';show Zm (Z4 (y.L P)) ?_;rfl';rw[Ai];show('o','o',?_);rw[Hr];show Y5 (λi m o=>∃B J v,m=[↑a,↑b,some (.ref (Ug M+1)),↑(Ug M1),J,v]/\o=M1++[.dct (begD B)]/\(Ug B)<=1+2 * i/\∀x,x∈B↔x=0\/∃p,p<i/\p∉c/\x∈r.getD p []) ([0],none,none,rfl,rfl,by simp,λx=>by simp) ?_ ?_ ?_
 .rintro i m o _ _;trivial
 .rintro i dx m o C F ⟨B,J,v,rfl,rfl,W,E⟩ R;let(X,rfl):=X7 F;rw[tg_one];delta Rv;rfl';show .inr (.inl (begD c,_,cD (Z5 A),rfl,?_));rw[X2];by_cases u:i∈c
  .rw[decide_eq_true u]
   try dsimp only
   rw[nc 'd'];show R _ _ (B,_,_,rfl,rfl,'o',λx=>(E x).trans (or_congr_right (λzz=>by let(p,H,h,n):=zz;show(p,'o',h,n),λ(p,H,h,n)=>(p,?_,h,n))));by_cases e:p=i
   .subst e;show absurd u h
   .lia
  .rw[mm u]
   try dsimp only
   rw[ng rfl];have O:r[i]?=some r[i]:=Aa X;have S:r.getD i []=r[i]:=by rw[Ad,O];rfl
   have l2:=h r[i] (He _);show ix_l (k:=i) (Z4 (y.L P)) (d:= .tup (natD r[i])) (by rw[Ch,O];rfl) ?_;rfl';show Y5 (λj m o=>∃l v,m=[↑a,↑b,some (.ref (Ug M+1)),↑(Ug M1),some (.int (i:Nat)),v]/\o=M1++[.dct (begD l)]/\(Ug l)<=Ug B+j/\∀x,x∈l↔x∈B\/x∈r[i].take j) (B,_,rfl,rfl,'o',λx=>by simp) ?_ ?_ ?_
   .rintro j m o _ _;trivial
   .rintro j dx m o C2 F ⟨l,v,rfl,rfl,w,f⟩ D;let(g,s,rfl):=Zp F;have hj:=(Ab.mp s).1;rw[tg_one];delta Ra;rfl';show .inr (begD l,_,cD Zb,rfl,by rw[Wb];show Z1 'o',?_);rw[Df _ _ (na _),Nat.sub_self];by_cases t:g∈l
    .rw[Z53 t];show D _ _ (l,_,rfl,rfl,'o',λx=>?_);rw[f x,Y2 s,Ap,Af];show(λz=>z.imp id .inl,λz=>z.elim .inl λz=>z.elim .inr λz=>?_);subst z;show(f x).mp t
    .rw[Xi t];show D _ _ (l++[g],_,rfl,rfl,by simp;lia,λx=>?_);rw[Ap,f x,Y2 s,Ap,or_assoc]
   .rintro m o ⟨l,v,rfl,rfl,w,f⟩;rw[Z3] at w f;show R _ _ (l,_,_,rfl,rfl,'o',λx=>?_);rw[f x,Dj,E x,or_assoc];show or_congr_right (λz=>?_,λ(p,H,h,n)=>?_)
    .rcases z with⟨p,H,h,n⟩|z
     .exact(p,'o',h,n)
     .exact(i,'o',u,by rw[S];show z)
    .by_cases e:p=i
     .subst e;rw[S] at n;show .inr n
     .show .inl (p,'o',h,n)
 .rintro m o ⟨B,J,v,rfl,rfl,W,E⟩;rw[Xf] at E;show Za ?_;erw[Rx,tss_cons,tss_nil,U.ts];show kept rfl rfl (Z4 (y.L u)) Zb 'o' ?_;have V:Ug M<=(M1++[Cell.dct (begD B)]).length:=by rw[Ag,N];lia
  show q B _ _ E ((y.app _).app _) Zb V
def Zz6:DSp:=λe M Q _=>∃(c:Nat) (a:KQ9) (l:LQ) (b:Nat->Nat),e=[.tup (natD l),.ref c]/\Y7 M c=some a/\(Ug l)<=1000/\(∀p∈l,(valD a (Dw (p:Int))).getD (.int (p:Nat))= .int (b p:Nat))/\∀d,Kp M d->Q (.tup (natD (l.map b))) d
def Ys0{Γ G}:Rd K Γ G Zz6 Wm Wv:=by
 rintro h M Q Z ⟨c,f,l,o,rfl,k,r,g,q⟩;delta Wm Wv;rfl';erw[capD,Az,Dh,Hg,Dz,Dv,Dr,Hh];show Zj (λi a b=>∃d,a=[d,↑c]/\b=M++[.lst (natD ((l.take i).map o))]) (none,rfl,rfl) ?_ ?_ ?_
 .rintro i a b _ _;trivial
 .rintro i s a b C m ⟨d,rfl,rfl⟩ n;let(p,j,rfl):=Zp m;rfl';show(Z8 (Qx k),f,_,Qx k,rfl,?_);rw[g p (Am j)];show(_,cW Zb,by rw[Z3];show Z1 (by simp;lia),?_);show n _ _ (_,rfl,?_);rw[Df _ _ (na _),Nat.sub_self,Y2 j,As,Yu];rfl
 .rintro a b ⟨d,rfl,rfl⟩;have e:(natD l).length=Ug l:=Z3 _;rw[e,Dj];show(_,cL Zb,q _ (Kp.new _ _))
def cpy(n:Nat)(R:LQ)(p:Nat):Nat:=if p∈R then n+R.idxOf p else p
def cpyD(n:Nat)(R:LQ):KQ9:=R.map fun(p:Nat)=>(#v[Dw (p:Int),D.int ((n+R.idxOf p:Nat):Int)]:Key×D)
def Z49(n:Nat)(R:LQ)(p:Nat):(valD (cpyD n R) (Dw (p:Int))).getD (.int (p:Nat))= .int (cpy n R p:Nat):=by unfold cpyD cpy;rw[Ed];split<;>rfl
def copies{d:DEnv}{a b i j:Nat}(hi:d[i]?=some (↑b))(s:d[j]?=some (↑a))(t:readL M a=some xs)(m:readL M b=some (natD R))(k:R.Nodup)(A:Ug R<=2000)
  (q:Q (.ref (Ug M+1)) (M++[.lst (U.Ys (cpyD (Ug xs) R))]++[.dct (cpyD (Ug xs) R)])):
  te c Z (.bf .dict1 (.cons (.comp N [none,none,some j] [0,1] (.enm (.var i)) .no (.tup (.cons (.var 1) (.cons (.bin .add (.bf .len (.cons (.var 2) .nil)) (.var 0)) .nil)))) .nil)) d M Q:=by
 dsimp only[te,tes,tit];rw[hi];dsimp only;show(_,m,?_);have v:capD [none,none,some j] d=[none,none,↑a]:=by erw[capD,Az,Dh,Hg,Dz,s,Hh]
 rw[v];show Zj (λi d g=>∃f e,d=[f,e,↑a]/\g=M++[.lst ((R.take i).map fun(p:Nat)=> .tup [.int (p:Nat),.int ((Ug xs+R.idxOf p:Nat):Int)])]) (none,none,rfl,rfl) ?_ ?_ ?_
 .rintro i d g _ ⟨f,e,rfl,rfl⟩;show(_,Z4 m,rfl)
 .rintro i B d g C r ⟨f,e,rfl,rfl⟩ u;let(y,o,rfl):=Np r;let(p,l,rfl):=Zp o;let(hi,h):=Ab.mp l;have n:R.idxOf p=i:=by rw[<-h];show ND.Yq k hi
  rfl';show Zm (Z4 t) ?_;show(Z0 'd',_,cW Zb,by rw[Ai];show Z1 (by simp;lia),?_);show u _ _ (_,_,rfl,?_);rw[Df _ _ (na _),Nat.sub_self,Y2 l,As,List.map_singleton,n,Kg];rfl
 .rintro d g ⟨f,e,rfl,rfl⟩;rw[Jc,Z3,Dj];change bfD _ _ _ _ _;rw[bf_dict];show .inr (cpyD (Ug xs) R,?_,by ext cpyD;rw[Ai];show Z1 'o',?_)
  .refine(cL Zb).trans ?_;unfold U.Ys cpyD;rw[Hw];rfl
  .have z:Su (cpyD (Ug xs) R)=cpyD (Ug xs) R:=Jk k λp=> .int ((Ug xs+R.idxOf p:Nat):Int);have x:(M++[Cell.lst (R.map fun(p:Nat)=> .tup [.int (p:Nat),.int ((Ug xs+R.idxOf p:Nat):Int)])]).length=Ug M+1:=by simp
   have w:U.Ys (cpyD (Ug xs) R)=R.map fun(p:Nat)=> .tup [.int (p:Nat),.int ((Ug xs+R.idxOf p:Nat):Int)]:=by unfold U.Ys cpyD;rw[Hw];rfl
   rw[z,x,<-w];show q
def copied{f a b n i j k:Nat}{gs:List (LQ)}{o:Nat->Nat}(B:c.Γ[f]?=some Zz6)(hi:e[i]?=some (↑b))(A:e[j]?=some (↑a))(z:e[k]?=some (↑n))
  (F:readL M a=some (gs.map λl=> .tup (natD l))) (w:readL M b=some (natD R)) (E:M[n]?=some (.dct kvs)) (G:∀p∈R,p<Ug gs) (P:Ug R<=2000) (I:∀l∈gs,Ug l<=2) (s:∀p:Nat,(valD kvs (Dw (p:Int))).getD (.int (p:Nat))= .int (o p:Nat))
  (q:∀g,Kp M g->g[Ug M]?=some (.lst (R.map λp=> .tup (natD ((gs.getD p []).map o))))->Q (.ref (Ug M)) g):
  te c noX (.comp N [none,some j,some k] [0] (.seq (.var i)) .no (.call f (.cons (.ix (.var 1) (.var 0)) (.cons (.var 2) .nil)))) e M Q:=by
 dsimp only[te,tes,tit];rw[hi];dsimp only[itD];show(_,w,?_);have K:capD [none,some j,some k] e=[none,↑a,↑n]:=by erw[capD,Az,Dh,Hg,Dz,A,z,Hh]
 rw[K];show Zj (λi e g=>∃d,e=[d,↑a,↑n]/\Kp M g/\g[Ug M]?=some (.lst ((R.take i).map λp=> .tup (natD ((gs.getD p []).map o))))) (none,rfl,Kp.new _ _,Zb) ?_ ?_ ?_
 .rintro i e g _ ⟨d,rfl,h,_⟩;show h.L w
 .rintro i S e g C y ⟨d,rfl,h,m⟩ H;let(p,u,rfl):=Zp y;have r:=G p (Am u);have v:gs[p]?=some gs[p]:=Aa r;have J:gs.getD p []=gs[p]:=by rw[Ad,v];rfl
  have O:=I gs[p] (He _);rfl';show ix_l (k:=p) (h.L F) (d:= .tup (natD gs[p])) (by rw[Ch,v];rfl) ?_;erw[B];let(U,rfl):=h;show(n,kvs,gs[p],o,rfl,cD (Z5 E),'o',λt _=>s t,λV x=>?_);let(T,rfl):=x;show(_,cW (Z5 m),by rw[Ai];show Z1 (by simp;lia),?_);show H _ _ (_,rfl,Kp.set (_,Db _ _ _) (na _),?_);rw[Y2 u,As,List.map_singleton,J];show Yy (Z5 m)
 .rintro e g ⟨d,rfl,h,m⟩;rw[Z3,Dj] at m;show q g h m
def tupD(gs:List (LQ)):LD:=gs.map λl=> .tup (natD l)
def half(n:Nat)(us R:LQ)(gs:List (LQ))(i:Nat):List (LQ):=gs.mapIdx λk l=>if k<i/\k∉us then l.map (cpy n R) else l
def nxt(gs:List (LQ))(us R:LQ):List (LQ):=half (Ug gs) us R gs (Ug gs)++R.map λp=>(gs.getD p []).map (cpy (Ug gs) R)
def Jj(n:Nat)(us R:LQ)(gs:List (LQ))(i:Nat):(half n us R gs i).length=Ug gs:=by ext half;simp
def Zm0(n:Nat)(us R:LQ)(gs:List (LQ)):half n us R gs 0=gs:=by
 ext half;show Ic λk=>?_;rw[Hv];cases gs[k]? with
 | none=>rfl
 | some l=>simp
def Yc8{n:Nat}{gs:List (LQ)}(h:i∈us):half n us R gs (i+1)=half n us R gs i:=by
 ext half;show Ic λk=>?_;rw[Hv,Hv];cases gs[k]? with
 | none=>rfl
 | some l=>
  by_cases e:k=i
  .subst e;simp[h]
  .have:k<i+1↔k<i:='o';simp[this]
def Zt2{n:Nat}{gs:List (LQ)}(h:i∉us)(hi:i<Ug gs):(half n us R gs i).set i ((gs.getD i []).map (cpy n R))=half n us R gs (i+1):=by
 have a:gs[i]?=some (gs.getD i []):=by rw[Ad,Aa hi];rfl
 show Ic λk=>?_;by_cases e:i=k
 .subst e;rw[Ds (by rw[Jj];show hi)];ext half;rw[Hv,a];simp[h]
 .rw[Dk e];ext half;rw[Hv,Hv];have:k<i+1↔k<i:='o';simp[this]
def Y83{n:Nat}{gs:List (LQ)}(hi:i<Ug gs):(half n us R gs i)[i]?=some (gs.getD i []):=by ext half;rw[Hv,Aa hi,Ad,Aa hi];simp
def Zt8:DSp:=λi M Q _=>∃(a c b f:Nat) (d:List (LQ)) (e h R:LQ),i=[.ref a,.ref c,.ref b,.ref f]/\M[a]?=some (.lst (tupD d))/\M[c]?=some (.lst (natD e))/\readL M b=some (natD h)/\readL M f=some (natD R)/\a≠c/\a≠b/\a≠f/\c≠b/\c≠f/\
 R.Nodup/\(Ug R)<=1000/\(Ug d)<=1000/\(Ug h)<=1000/\(Ug e)=Ug d/\(∀p∈R,p<Ug d)/\(∀l∈d,Ug l<=2)/\
 ∀g,Kp M ((g.set a (.lst (tupD d))).set c (.lst (natD e)))->g[a]?=some (.lst (tupD (nxt d h R)))->g[c]?=some (.lst (natD (e++R.map λp=>e.getD p 0)))->Q .non g
def Yu5{Γ G}(g11:Γ[11]?=some Zz6):Rd K Γ G Zt8 Rs Rq:=by
 rintro ds M Q Z ⟨a,H,b,D,f,E,m,R,rfl,A,ho,s,l,S,n2,n3,n4,n5,nd,lR,lg,lu,lo,hR,h2,q⟩;erw[Rs,Rq,tss_cons,tss_nil];erw[U.ts];show copies rfl rfl (cL A) l nd 'o' ?_;have lt:(tupD f).length=Ug f:=by ext tupD;simp
 rw[lt];have T:Kp M (M++[.lst (U.Ys (cpyD (Ug f) R))]++[.dct (cpyD (Ug f) R)]):=(Kp.new _ _).app _;have z:(M++[.lst (U.Ys (cpyD (Ug f) R))]++[.dct (cpyD (Ug f) R)]:Z2)[Ug M+1]?=some (.dct (cpyD (Ug f) R)):=by have:=@Zb (M++[.lst (U.Ys (cpyD (Ug f) R))]) (.dct (cpyD (Ug f) R));rwa[show(M++[Cell.lst (U.Ys (cpyD (Ug f) R))]).length=Ug M+1 by simp] at this
 have l1:(M++[Cell.lst (U.Ys (cpyD (Ug f) R))]++[Cell.dct (cpyD (Ug f) R)]).length=Ug M+2:=by simp
 generalize M++[.lst (U.Ys (cpyD (Ug f) R))]++[.dct (cpyD (Ug f) R)]=M1 at T z l1 |-;rw[tg_one];show Za ?_;erw[tss_cons,tss_nil,U.ts];show copied g11 rfl rfl rfl (T.L (cL A)) (T.L l) z hR 'o' h2 (λp=>Z49 _ _ p) λM2 k2 hz=>?_;rw[tg_one];show Za ?_;have Y:=T.trans k2;let(w,rfl):=Y;have y0:(M++w)[Ug M+1]?=some (.dct (cpyD (Ug f) R)):=by let(N2,e):=k2;rw[e];show Z5 z
 rfl';show Zm (cL (Z5 A)) ?_;rfl';rw[lt];show('o','o',?_);rw[Hr];have o:∀{g:Z2} {j:Nat} {c:Cell},Kp (M++w) (g.set a (.lst (tupD f)))->a≠j->(M++w)[j]?=some c->g[j]?=some c:=fun{g j c} r ne h=>by
  let(N,e):=r;have h1:(g.set a (.lst (tupD f)))[j]?=some c:=by rw[e];show Z5 h
  rwa[Dk ne] at h1
 have la:=c_lt A;have e0:(M++w).set a (.lst (tupD f))=M++w:=by
  show Ic λi=>?_;by_cases e:a=i
  .subst e;rw[Ds (c_lt (Z5 A)),Z5 A]
  .rw[Dk e]
 obtain⟨P,w0,J⟩:∃P,M[b]?=some P/\∀g:Z2,g[b]?=some P->readL g b=some (natD m):=by
  ext s readL;cases O:M[b]? with
  | none=>rw[O] at s;cases s
  | some P=>show(P,rfl,λg h=>by ext readL;rw[h];rw[O] at s;show s)
 obtain⟨F,x0,x⟩:∃F,M[D]?=some F/\∀g:Z2,g[D]?=some F->readL g D=some (natD R):=by
  ext l readL;cases O:M[D]? with
  | none=>rw[O] at l;cases l
  | some F=>show(F,rfl,λg h=>by ext readL;rw[h];rw[O] at l;show l)
 show Y5 (λi v g=>∃d6,v=[↑a,↑H,↑b,↑D,some (.ref (Ug M+1)),↑(Ug M1),d6]/\Kp (M++w) (g.set a (.lst (tupD f)))/\g[a]?=some (.lst (tupD (half (Ug f) m R f i)))) (none,rfl,by rw[e0];show Kp.refl _,by rw[Zm0];show Z5 A) ?_ ?_ ?_
 .rintro i v g _ _;trivial
 .rintro i dx v g C hx ⟨d6,rfl,r,u⟩ V;let(hi,rfl):=X7 hx;rw[tg_one];delta Vk;rfl';show .inl (_,J _ (o r n2 (Z5 w0)),rfl,Pf m,?_);rw[Ze3];by_cases s:i∈m
  .rw[decide_eq_true s]
   try dsimp only
   rw[nc 'd'];show V _ _ (_,rfl,r,by rw[Yc8 s];show u)
  .rw[mm s]
   try dsimp only
   rw[ng rfl];have hg:(tupD (half (Ug f) m R f i))[i]?=some (.tup (natD (f.getD i []))):=by ext tupD;rw[Ch,Y83 hi];rfl
   have l2:(f.getD i []).length<=2:=by rw[Ad,Aa hi];show h2 _ (He _)
   show ix_l (k:=i) (cL u) hg ?_;show(_,_,f.getD i [],cpy (Ug f) R,rfl,cD (o r 'o' y0),'o',λt _=>Z49 _ _ t,λM3 k3=>?_);rfl';let(N3,rfl):=k3;show .inl (_,_,i,rfl,cW (Z5 u),?_,?_)
   .unfold ixN;rw[ng 'o'];have:(tupD (half (Ug f) m R f i)).length=Ug f:=by ext tupD;rw[Ai,Jj]
    rw[this];simp;lia
   show V _ _ (_,rfl,?_,?_)
   .rw[Lq,Lj _ _ (c_lt u)];show r.app N3
   .rw[Yy (Z5 u),<-Zt2 s hi];ext tupD;rw[List.map_set]
 .rintro v g ⟨d6,rfl,r,u⟩;rw[Xf] at u;show Za ?_;delta Vn;rfl';have u0:Ug M<=Ug M1:='o';have v0:=o r 'o' hz;have l3:(tupD (half (Ug f) m R f (Ug f))).length=Ug f:=by ext tupD;rw[Ai,Jj]
  show(Z8 (cL u),_,_,cW u,cW v0,by rw[l3,Ai];show Z0 'o',?_);have en:tupD (half (Ug f) m R f (Ug f))++(R.map λp=> .tup (natD ((f.getD p []).map (cpy (Ug f) R))))=tupD (nxt f m R):=by unfold nxt tupD;rw[As,Hw];rfl
  rw[en];show Za ?_;have B:(g.set a (.lst (tupD (nxt f m R))))[a]?=some (.lst (tupD (nxt f m R))):=Yy u;have n:(g.set a (.lst (tupD (nxt f m R))))[H]?=some (.lst (natD E)):=c_ne (o r S (Z5 ho)) S;have y:(g.set a (.lst (tupD (nxt f m R))))[D]?=some F:=c_ne (o r n3 (Z5 x0)) n3;have I:Kp (M++w) ((g.set a (.lst (tupD (nxt f m R)))).set a (.lst (tupD f))):=by rw[Lq];show r
  generalize g.set a (.lst (tupD (nxt f m R)))=M4 at B n y I |-;rfl';show(Z8 (cL n),_,x _ y,?_);erw[capD,Az,Dh,Hg,Dz,Dv,Dr,Hh];show Zj (λi v W=>∃d,v=[d,↑H]/\W=M4++[.lst (natD ((R.take i).map λp=>E.getD p 0))]) (none,rfl,rfl) ?_ ?_ ?_
  .rintro i v W _ ⟨d,rfl,rfl⟩;show x _ (Z5 y)
  .rintro i dx v W C hx ⟨d,rfl,rfl⟩ V;let(p,hp,rfl):=Zp hx;have l:=hR p (Am hp);have z0:E[p]?=some (E.getD p 0):=by rw[Ad,Aa 'o'];rfl
   rfl';show ix_l (k:=p) (cL (Z5 n)) (d:= .int (E.getD p 0:Nat)) (by ext natD;rw[Ch,z0];rfl) ?_;show(_,cW Zb,by rw[Z3];show Z1 (by simp;lia),?_);show V _ _ (_,rfl,?_);rw[Df _ _ (na _),Nat.sub_self,Y2 hp,As,Yu];rfl
  .rintro v W ⟨d,rfl,rfl⟩;rw[Z3,Dj];show(_,_,cW (Z5 n),cW Zb,by rw[Z3,Z3];show Z0 (by simp;lia),?_);rw[<-Yu];show q _ ?_ (c_ne (Z5 B) S.symm) (Yy (Z5 n));rw[List.set_comm _ _ S.symm,Lq,Lj _ _ (c_lt B)];have X:=c_lt n;rw[Lj _ _ ↥X];show Kp.app ?_ _;let(N4,e4):=I;rw[e4];have e5:(M++w++N4).set H (.lst (natD E))=M++w++N4:=by
    show Ic λi=>?_;by_cases e:H=i
    .subst e;rw[Ds (c_lt (Z5 (Z5 ho))),Z5 (Z5 ho)]
    .rw[Dk e]
   rw[e5];show(_,Db _ _ _)
def Zh2{n i:Nat}(h:i<n):(Aj n)[i]?=some i:=by rw[Ho h]
def Yn7{a f i j:Nat}(hi:b[i]?=some (↑a))(n:b[j]?=some (↑f))(o:readL M a=some xs)(m:M[f]?=some (.dct (begD B)))(r:Ug xs<=2000)
  (q:Q (.ref (Ug M)) (M++[.lst (natD ((Aj (Ug xs)).filter (·∉B)))])):te c Z (.comp N [none,some j] [0] (.rng1 (.bf .len (.cons (.var i) .nil))) (.yes (.cmp .notin (.var 0) (.var 1))) (.var 0)) b M Q:=by
 dsimp only[te,tes,tit];rw[hi];dsimp only;show Zm o ?_;dsimp only;show('o','o',?_);rw[Hr];have p:capD [none,some j] b=[none,↑f]:=by erw[capD,Az,Dh,Hg,Dz,n,Hh]
 rw[p];show Zj (λi b g=>∃d,b=[d,↑f]/\g=M++[.lst (natD (((Aj (Ug xs)).take i).filter (·∉B)))]) (none,rfl,rfl) ?_ ?_ ?_
 .rintro i b g _ _;trivial
 .rintro i s b g C l ⟨d,rfl,rfl⟩ k;let(hi,rfl):=X7 l;have h:=Zh2 hi;rfl';show .inr (.inl (begD B,_,cD (Z5 m),rfl,?_));rw[X2];by_cases e:i∈B
  .rw[decide_eq_true e]
   try dsimp only
   rw[nc 'd'];show k _ _ (_,rfl,?_);rw[Ym _ h,nc ↥e,Hd]
  .rw[mm e]
   try dsimp only
   rw[ng rfl];show(_,cW Zb,by rw[Z3];show Z1 (ni (Ha _ _) (by simp;lia)),?_);show k _ _ (_,rfl,?_);rw[Df _ _ (na _),Nat.sub_self,Ym _ h,ng ↥e,Zi];rfl
 .rintro b g ⟨d,rfl,rfl⟩;rw[Xf,List.take_of_length_le 's'];show q
inductive Sq (h:Nat->LQ):LQ->LQ->Prop where
 | nil:Sq h [] []
 | snoc {o T R:LQ} {x:Nat}:Sq h o T->CT h T [x] R->(Ug R)<=1->Sq h (o++[x]) (T++R)
def Zd(gs:List (LQ))(B:LQ):LQ:=(Aj (Ug gs)).filter (·∉B)
def Zf5:DSp:=λh M Q _=>∃(a f:Nat) (b:List (LQ)) (B:LQ),h=[.ref a,.ref f]/\readL M a=some (b.map λl=> .tup (natD l))/\M[f]?=some (.dct (begD B))/\(Ug b)<=1000/\(∀l∈b,Ug l<=2)/\
 ∀d,ND.Ends (gR (Ug b) (Zd b B) (amg b (Zd b B))) (Ug b) (d++[Ug b])->
  (∀e x g T R,d.reverse=e++x::g->Sq (into (amg b (Zd b B)) (Zd b B)) e T->CT (into (amg b (Zd b B)) (Zd b B)) T [x] R->(∀p∈R,p∈Zd b B)->1<Ug R->(Ug R)<64/\∀S c r,S.Perm R->S.Pairwise (·<=·)->Kp M c->c[r]?=some (.lst (natD S))->(Ug M)<=r->Q (.ref r) c)/\
  ∀T c,Sq (into (amg b (Zd b B)) (Zd b B)) d.reverse T->Kp M c->Q .non c
def te_v1{x:D}{a:DEnv}{sp:DSp}(b:c.Γ[f]?=some sp)(hi:a[i]?=some (some x))(h:te c X e a M λy d=>sp [x,y] d Q X):te c X (.call f (.cons (.var i) (.cons e .nil))) a M Q:=by erw[te,tes,b,hi];show h
def te_v{x:D}{a:DEnv}{sp:DSp}(b:c.Γ[f]?=some sp)(hi:a[i]?=some (some x))(h:sp [x] M Q X):te c X (.call f (.cons (.var i) .nil)) a M Q:=by erw[te,tes,b,hi];show h
def Zt0{c:List Int}(h:c.Perm (R.map fun(x:Nat)=>(x:Int)))(f:c.Pairwise (·<=·)):∃S:LQ,c.map D.int=natD S/\S.Perm R/\S.Pairwise (·<=·):=by
 have e:(c.map Int.toNat).map (fun(x:Nat)=>(x:Int))=c:=by rw[Hw];show(Hu (g:=id) λx d=>?_).trans (Mx _);let(y,_,rfl):=Ar.mp (h.mem_iff.mp d);simp
 show(c.map Int.toNat,?_,?_,?_)
 .unfold natD
  conv=>lhs;rw[<-e]
  rw[Hw];rfl
 .have:=h.map Int.toNat;rw[Hw] at this;have i:R.map (Int.toNat ∘ fun(x:Nat)=>(x:Int))=R:=(Hu (g:=id) λx _=>by simp).trans (Mx _);rwa[i] at this
 .show Tr.map _ (λa b h=>by lia) f
def Zs2(gs:List (LQ))(B:LQ):(Zd gs B).Nodup:=Iq.filter _
def Qs(gs:List (LQ))(B:LQ):(Zd gs B).length<=Ug gs:=ni (Ha _ _) 's'
def Z46{gs:List (LQ)}{p:Nat}(h:p∈Zd gs B):p<Ug gs:=Hj.mp (Di.mp h).1
def Yb9{gs:List (LQ)}(b:∀l∈gs,Ug l<=2)(ps:LQ)(p:Nat):(amg gs ps p).length<=2/\∀t∈amg gs ps p,t∈ps:=by
 show(ni (Ha _ _) ?_,λt a=>by simpa using (Di.mp a).2);rw[Ad];cases e:gs[p]? with
 | none=>simp
 | some l=>show b l (Am e)
def Vf{n:Nat}(h:Zh M n=some xs):M[n]?=some (.lst xs):=by
 ext h Zh;split at h
 .rename_i e;cases h;show e
 .cases h
def Z09{M:Z2}{a:Nat}{c:Cell}(h:M[a]?=some c):M.set a c=M:=by
 show Ic λi=>?_;by_cases e:a=i
 .subst e;rw[Ds (c_lt h),h]
 .rw[Dk e]
def Zt7{M a:Z2}{tk:Nat}{c c':Cell}(h:Kp M (a.set tk c))(b:Ug M<=tk)(d:a[tk]?=some c'):Kp M a:=by have:=Kp.set (c:=c') h b;rwa[Lq,Z09 d] at this
def Z16{n:Nat}{S:Nat->Prop}{d:LQ}(c:Wf n starts S gf)(h:ND.Ends (gR n starts gf) n (d++[n])):∀x∈d,S x:=by
 intro x a;have f:=h.facts.1;let(k,b,e):=h;have g:gR n starts gf n=starts:=by ext gR;rw[ng rfl]
 rw[g] at e;have i:=Yh2 c k;rw[e] at i;show(i.d x (Ax _ a)).resolve_left λz=>?_;show(Dt.mp f).2.2 x a n 's' z
def Y04(a:t∈into h ps g):t∈ps:=by ext a into;let(p,b,c):=List.mem_flatMap.mp a;let(_,_,rfl):=Ar.mp c;show b
def Ys9{Γ G}(g2:Γ[2]?=some Tz)(g4:Γ[4]?=some Js)(g5:Γ[5]?=some Jb)(g6:Γ[6]?=some Ee):Rd K Γ G Zf5 Ni Nb:=by
 rintro ds M Q Z ⟨a,dn,b,B,rfl,ha,u0,lg,h2,q⟩;have ln:=Qs b B;have nd:=Zs2 b B;have tw:=Yb9 h2 (Zd b B);erw[Ni,Nb,tss_cons,tss_nil];erw[U.ts];show te_v1 g4 rfl (Yn7 rfl rfl ha u0 (by simp;lia) ?_);rw[Ai];show(a,Ug M,b,Zd b B,rfl,Z4 ha,cL Zb,nd,'o',λp l=>Z46 l,h2,λM1 r1 k Y k1 m0 X dl=>?_);dsimp only;rw[tg_one];show Za ?_;erw[tss_cons,tss_nil,U.ts];show te_v g5 rfl (r1,_,k,Zd b B,Y,amg b (Zd b B),rfl,X,dl,nd,'o',λp _=>tw p,λf r2 n E k2 n0 A r0=>?_);dsimp only;rw[tg_one];show Za ?_;rfl';have k0:Kp M (f++[.dct []]):=(((Kp.new _ _).trans k1).trans k2).app _;have u:f[r1]?=some (.dct k):=by let(N,rfl):=k2;show Z5 X
 show(k,cD (Z5 u),?_);have ek:Xk k=natD (Zd b B):=by rw[dl.eq];show J7 _ _
 have q0:DLs (f++[.dct []]++[.lst (Xk k)]) (M++[Cell.lst (natD (Zd b B))]).length k (Zd b B) Y (amg b (Zd b B)):=by let(N,rfl):=k2;show((dl.app N).app _).app _
 have wf:Wf (Ug b) (Zd b B) (·∈Zd b B) (amg b (Zd b B)):=(λp l=>Z46 l,'o',λx hx=>hx,λp _=>(tw p).1,λp _=>(tw p).2);show(r1,_,Ug b,Zd b B,(·∈Zd b B),amg b (Zd b B),rfl,by rw[<-ek];show cL Zb,q0.ga (Z5 (Z5 u)),wf,λd v r3 en k3 V o0=>?_);let(q1,q2):=q d en;have dm:=Z16 wf en;have D:=Vf V;have r:v[Ug f]?=some (.dct (begD [])):=by let(N,rfl):=k3;show Z5 (Z5 Zb)
 have lr:r3≠Ug f:=λe=>by rw[e,r] at D;cases D
 have L:Kp M v:=(k0.app _).trans k3;have I:Ug M<=Ug f:=by let(N,e):=k0;have:=congrArg Ug e;have l2:=c_lt A;let(N2,rfl):=k2;let(N1,rfl):=k1;erw[Ag];lia
 have W:v[r2]?=some (.dct n):=by let(N,rfl):=k3;show Z5 (Z5 (Z5 A))
 have l2:=c_lt A;have m:DLs v (Ug M1) n (Zd b B) E (into (amg b (Zd b B)) (Zd b B)):=by let(N,rfl):=k3;show((r0.app _).app _).app N
 dsimp only[itD];show(_,Zf V,?_);have w:∀{g:Z2} {j:Nat} {c:Cell},Kp v (g.set (Ug f) (.dct (begD [])))->(Ug f)≠j->v[j]?=some c->g[j]?=some c:=fun{g j c} o ne h=>by
  let(N,e):=o;have h1:(g.set (Ug f) (.dct (begD [])))[j]?=some c:=by rw[e];show Z5 h
  rwa[Dk ne] at h1
 show Y5 (λi σ g=>∃d5 d6 T,σ=[↑a,↑dn,↑r1,↑r2,↑(Ug f),d5,d6]/\Kp v (g.set (Ug f) (.dct (begD [])))/\g[Ug f]?=some (.dct (begD T))/\Sq (into (amg b (Zd b B)) (Zd b B)) (d.reverse.take i) T/\T.Nodup/\∀p∈T,p∈Zd b B)
  (none,none,[],rfl,by rw[Z09 r];show Kp.refl _,r,.nil,List.nodup_nil,λp l=>by simp at l) ?_ ?_ ?_
 .rintro i σ g _ ⟨d5,d6,T,rfl,o,_,_⟩;show cL (w o lr.symm D)
 .rintro i dx σ g C hx ⟨d5,d6,T,rfl,o,hT,F,H,s⟩ hC;let(x,z,rfl):=Zp hx;have w0:x∈Zd b B:=dm x (Dl.mp (Am z));have lT:Ug T<=(Zd b B).length:=Ay H s;rw[tg_one];delta Ro;rfl';have s0:DLs (g++[.lst [.int (x:Nat)]]) (Ug M1) n (Zd b B) E (into (amg b (Zd b B)) (Zd b B)):=(m.eq,m.inj,m.lo,λp l=>Z5 (w o (c_dl r (m.cell p l)) (m.cell p l)));show(Z0 'd',r2,Ug g,Ug f,Ug M1,0,n,Zd b B,[x],T,E,into (amg b (Zd b B)) (Zd b B),rfl,Z5 (w o 'o' W),s0,nd,'o',λp l=>(ni (Nw λp _=>(tw p).1) 'o',λt ht=>Y04 ht),cL Zb,by simp,λy hy=>by rw[Af] at hy;subst hy;show w0,Z5 hT,H,'o','o',λR M5 r5 ct hR x0 O P p0=>?_);dsimp only;show Za ?_;have J:Kp v (M5.set (Ug f) (.dct (begD []))):=by
   let(N,e):=x0;have e6:M5.set (Ug f) (.dct (begD []))=g.set (Ug f) (.dct (begD []))++([.lst [.int (x:Nat)]]++N):=by rw[<-Lq (a:= .dct (begD T)),e,Db,Lj _ _ (c_lt hT)]
   rw[e6];show o.app _
  have z0:d.reverse=d.reverse.take i++x::d.reverse.drop (i+1):=by let(hi,v0):=Ab.mp z;rw[<-v0,<-Hx hi,List.take_append_drop]
  rfl';show Zm (cL P) ?_;rfl';rw[Z3];by_cases h1:1<Ug R
  .rw[ng 'o'];let(y0,t0):=q1 _ x _ T R z0 F ct hR h1;show(R.map fun(x:Nat)=>(x:Int),?_,by rw[Ai];show y0,λms p1 p2=>?_)
   .rw[cL P,Hw];rfl
   .let(S,e,s1,s2):=Zt0 p1 p2;rw[e];have k5:Kp M M5:=Zt7 (L.trans J) I O;show t0 S _ _ s1 s2 (k5.app _) Zb (by let(N,rfl):=k5;simp)
  .rw[nc 'o'];show hC _ _ (_,_,T++R,rfl,J,O,?_,ct.nd,λp l=>(Ap.mp l).elim (s p) (hR p));rw[Y2 z];show .snoc F ct 'o'
 .rintro σ g ⟨d5,d6,T,rfl,o,hT,F,_⟩;rw[Z3,Dj] at F;show Za ?_;delta Rj;rfl';show q2 T g F (Zt7 (L.trans o) I hT)
def gsOf(a:List Nd):List (LQ):=a.map λd=>d.gs.reverse
def Y87{f a i:Nat}(l:c.Γ[f]?=some Eb)(hi:g[i]?=some (↑a))(k:readL M a=some (b.map Nd.d))(o:Ug b<=2000)
  (q:Q (.ref (Ug M)) (M++[.lst (tupD (gsOf b))])):te c Z (.comp N [none] [0] (.seq (.var i)) .no (.call f (.cons (.var 0) .nil))) g M Q:=by
 dsimp only[te,tes,tit];rw[hi];dsimp only[itD];show(_,k,?_);show Zj (λi g h=>∃d,g=[d]/\h=M++[.lst (tupD (gsOf (b.take i)))]) (none,rfl,rfl) ?_ ?_ ?_
 .rintro i g h _ ⟨d,rfl,rfl⟩;show Z4 k
 .rintro i p g h C j ⟨d,rfl,rfl⟩ n;rw[Ch,Ig] at j;let(e,m,rfl):=j;rfl'
  try erw[l]
  show(e,rfl,?_);show(_,cW Zb,by unfold tupD gsOf;rw[Ai,Ai];show Z1 (by simp;lia),?_);show n _ _ (_,rfl,?_);rw[Df _ _ (na _),Nat.sub_self,Y2 m];unfold tupD gsOf;rw[As,As];rfl
 .rintro g h ⟨d,rfl,rfl⟩;rw[Ai,Dj];show q
def Ww{l:LQ}(h:l.Nodup):l.reverse.Nodup:=by rw[List.Nodup,List.pairwise_reverse];show h.imp λh=>h.symm
abbrev gof(gs:List (LQ)):Nat->LQ:=λp=>gs.getD p []
def Cd(gs:List (LQ)):Prop:=∀p,p<Ug gs->∀y∈gof gs p,y<Ug gs
def Yn{gs:List (LQ)}{p:Nat}:p∈Zd gs B↔p<Ug gs/\p∉B:=by ext Zd;simp
def Jh{gs:List (LQ)}{L:LQ}{x y:Nat}:y∈amg gs L x↔y∈gof gs x/\y∈L:=by ext amg;simp
def Z22{L:LQ}:y∈into h L g↔y∈L/\g∈h y:=by
 ext into;rw[List.mem_flatMap];constructor
 .rintro⟨p,a,d⟩;let(z,b,rfl):=Ar.mp d;have:=Di.mp b;erw[decide_eq_true_eq] at this;show(a,this.2 ▸ this.1)
 .rintro⟨a,c⟩;show(y,a,Ar.mpr (g,Di.mpr (c,by simp),rfl))
section
variable{gs:List (LQ)}{B:LQ}
abbrev RL(gs:List (LQ))(B:LQ):Nat->Nat->Prop:=KS.Rc (DB.lk (Ug gs) (gof gs) B)
def Zm3(cd:Cd gs){x y:Nat}:y∈DB.lk (Ug gs) (gof gs) B x↔x∈Zd gs B/\y∈amg gs (Zd gs B) x:=by
 rw[DB.mem_lk,Yn,Jh,Yn];constructor
 .rintro⟨b,a,c⟩;show(b,a,cd x b.1 y a,c)
 .rintro⟨b,a,_,c⟩;show(b,a,c)
def Zk9{g:Nat->LQ}{z:Nat}{P:Nat->Prop}(h0:P z)(k:∀a b,b∈g a->KS.Rc g b z->P b->P a){x:Nat}(h:KS.Rc g x z):P x:=by
 have c:∀y,KS.Rc g x y->(KS.Rc g y z)->P y->P x:=by
  intro y i;induction i with
  | here=>show λ_ h=>h
  | @step a b _ e f=>show λd j=>f ((KS.Rc.one e).trans d) (k a b e d j)
 show c z h .here h0
def Y68(cd:Cd gs){x y:Nat}(h:KS.Rc (gR (Ug gs) (Zd gs B) (amg gs (Zd gs B))) x y)(j:x∈Zd gs B):RL gs B x y/\y∈Zd gs B:=by
 induction h with
 | here=>show(.here,j)
 | @step a b _ e g=>
  let(i,c):=g;have f:a≠Ug gs:=by have:=(Yn.mp c).1;lia
  have d:b∈amg gs (Zd gs B) a:=by ext e gR;rw[nc f] at e;show Dl.mp e
  show(.step i ((Zm3 cd).mpr (c,d)),(Jh.mp d).2)
def Y28{T R:LQ}{x y:Nat}(cd:Cd gs)(f:CT (into (amg gs (Zd gs B)) (Zd gs B)) T [x] R)(l:x∉T)(h:RL gs B y x)(c:∀z,RL gs B y z->RL gs B z x->z∉T):y∈R:=by
 have:RL gs B y y->y∈R:=by
  show Zk9 (P:=λa=>RL gs B y a->a∈R) ?_ ?_ h
  .show λ_=>(f.st x 's').resolve_left l
  .intro a b e m j d;have k:RL gs B y b:= .step d e;have n:=j k;let(i,g):=(Zm3 cd).mp e;show(f.cl b n a (Z22.mpr (i,g))).resolve_left (c a d ((KS.Rc.one e).trans m))
 show this .here
def Yr5{x:Nat}(cd:Cd gs)(m:CT (into (amg gs (Zd gs B)) (Zd gs B)) T [x] R)(S:Nat->Prop)(l:∀y∈R,S y):∀(i y:Nat),R[i]?=some y->KS.Wy (gR (Ug gs) (Zd gs B) (amg gs (Zd gs B))) S x y/\RL gs B y x:=by
 intro i;induction i using Nat.strongRecOn with
 | _ i k=>
  intro y d;have a:=l y (Am d);rcases m.src i y d with h|⟨j,q,hj,hq,h⟩
  .rw[Af] at h;subst h;show(.here a,.here)
  .let(f,e):=k j hj q hq;let(c,b):=Z22.mp h;have g:y≠Ug gs:=by have:=(Yn.mp c).1;lia
   show(.step a ?_ f,(KS.Rc.one ((Zm3 cd).mpr (c,b))).trans e);ext gR;rw[nc g];show Dl.mpr b
def Zk0(cd:Cd gs){o T:LQ}(h:Sq (into (amg gs (Zd gs B)) (Zd gs B)) o T):o.Nodup->T=o/\∀w∈o,∀z,RL gs B z w->RL gs B w z->z=w:=by
 induction h with
 | nil=>show λ_=>(rfl,λw a=>by simp at a)
 | @snoc o T R x _ j s r=>
  intro n;let(q,_,p):=Dt.mp n;let(e,d):=r q;have b:x∉T:=λz=>p x (e ▸ z) x 's' rfl;have k:x∈R:=(j.st x 's').resolve_left b;have i:R=[x]:=by
   match R,s,k with
   | [y],_,h=>rw[Af] at h;subst h;rfl
   | _::_::_,h,_=>simp at h
  show(by rw[i,e],λw a z g f=>?_);rcases Ap.mp a with a|a
  .show d w a z g f
  .rw[Af] at a;subst a;have:z∈R:=Y28 cd j b g λu m l c=>by have:=d u (e ▸ c) w (f.trans m) l;subst this;show b c
   rwa[i,Af] at this
def Nn{d:LQ}(cd:Cd gs)(e:ND.Ends (gR (Ug gs) (Zd gs B) (amg gs (Zd gs B))) (Ug gs) (d++[Ug gs])):d.Nodup/\∀x∈Zd gs B,x∈d:=by
 let(c,b,_):=e.facts;show((Dt.mp c).1,λx a=>?_);have:x∈d++[Ug gs]:=b (Ug gs) 's' x (by ext gR;rw[ng rfl];show a);rcases Ap.mp this with h|h
 .show h
 .rw[Af] at h;have:=(Yn.mp a).1;lia
def Y93{d m b T R:LQ}{x:Nat}(cd:Cd gs)(A:ND.Ends (gR (Ug gs) (Zd gs B) (amg gs (Zd gs B))) (Ug gs) (d++[Ug gs]))(w:d.reverse=m++x::b)(L:Sq (into (amg gs (Zd gs B)) (Zd gs B)) m T)
  (k:CT (into (amg gs (Zd gs B)) (Zd gs B)) T [x] R) (r:∀p∈R,p∈Zd gs B) (X:1<Ug R):DB.Scc (Ug gs) (gof gs) B R:=by
 let(P,Y):=Nn cd A;have n:(m++x::b).Nodup:=by rw[<-w];show Ww P
 let(S,Z,Q):=Dt.mp n;let(e,l):=Zk0 cd L S;subst e;have q:x∉T:=λz=>Q x z x 's' rfl;have G:x∈R:=(k.st x 's').resolve_left q;have F:=r x G;have s:d=b.reverse++[x]++T.reverse:=by have:=congrArg List.reverse w;rw[Go] at this;rw[this];simp
 have f:=Dt.mp k.nd;have o:∀y∈R,∃i,i<=Ug b/\(d++[Ug gs])[i]?=some y:=by
  intro y g;have v:=Y y (r y g);have E:y∉T:=λz=>f.2.2 y z y g rfl;rw[s] at v;have:y∈b.reverse++[x]:=(Ap.mp v).resolve_right λz=>E (Dl.mp z);let(i,j):=Ke this;have U:i<Ug b+1:=by simpa using (Ab.mp j).1
  show(i,'o',?_);rw[s,Db,De ↥U];show j
 have O:(d++[Ug gs])[Ug b]?=some x:=by rw[s,Db,Db,Dg 's',Ht,Nat.sub_self];rfl
 have a:∀y∈R,RL gs B x y/\RL gs B y x:=by intro y g;let(i,j):=Ke g;let(I,H):=Yr5 cd k _ o i y j;show((Y68 cd (KS.sound A O I) F).1,H)
 show(f.2.1,λt c=>Yn.mp (r t c),X,λt c u h=>(a t c).2.trans (a u h).1,λt c z W V N M=>?_);have D:RL gs B z x:=M.trans (a t c).2;have C:RL gs B x z:=(a t c).1.trans N;show Y28 cd k q D λu K J h=>?_;have:=l u h x (C.trans K) J;subst this;show q h
def Zz2{n:Nat}{D T S:LQ}(h:DB.Scc n g D T)(p:S.Perm T):DB.Scc n g D S:=
 (p.nodup_iff.mpr h.nd,λt a=>h.lt t (p.mem_iff.mp a),by rw[p.length_eq];show h.two,λt a u d=>h.mu t (p.mem_iff.mp a) u (p.mem_iff.mp d),λt a x f e c b=>p.mem_iff.mpr (h.all t (p.mem_iff.mp a) x f e c b))
end
def Yn2{n:Nat}{D D':LQ}(a:∀x,x<n->g x=g' x)(b:∀x,x∈D↔x∈D'):DB.lk n g D=DB.lk n g' D':=by
 funext x;ext DB.lk;by_cases h:x<n
 .rw[a x h];erw[b]
 .rw[nc (λz=>h z.1),nc (λz=>h z.1)]
def Yz(gs:List (LQ))(S R:LQ):(nxt gs S R).length=Ug gs+Ug R:=by unfold nxt half;simp
def Sx{gs:List (LQ)}{S R:LQ}{x:Nat}(h:x<Ug gs+Ug R):gof (nxt gs S R) x=DB.nx (Ug gs) (gof gs) S R x:=by
 ext DB.nx;show(nxt gs S R).getD x []=_;ext nxt;rw[Ad];by_cases e:x<Ug gs
 .rw[ng e,De (by ext half;simpa using e)];ext half;rw[Hv,Aa e];have b:gs[x]=gof gs x:=by change _=gs.getD x [];rw[Ad,Aa e];rfl
  by_cases t:x∈S
  .rw[ng t];simp[t,b]
  .rw[nc t];erw[Ud,Ki,b,e,t,not_false_eq_true,and_self,if_true];rfl
 .rw[nc e,Dg (by ext half;simp;lia)];have c:(half (Ug gs) S R gs (Ug gs)).length=Ug gs:=by ext half;simp
  rw[c,Ch];have a:x - (Ug gs)<Ug R:='o';rw[Aa a];ext DB.pj;rw[nc e,Ad,Aa a];rfl
def Y16{st R b:LQ}(h:CT gf [] st R)(k:CT gf [] st b):∀x∈R,x∈b:=by
 have:∀(i x:Nat),R[i]?=some x->x∈b:=by
  intro i;induction i using Nat.strongRecOn with
  | _ i c=>
   intro x a;rcases h.src i x a with z|⟨j,q,hj,hq,z⟩
   .exact(k.st x z).resolve_left 's'
   .exact(k.cl q (c j hj q hq) x z).resolve_left 's'
 intro x a;let(i,d):=Ke a;show this i x d
def Yi9{st R a:LQ}(h:CT gf [] st R)(k:CT gf [] st a):Ug R=Ug a:=
 Nat.le_antisymm (Ay ↥h.nd (Y16 h k)) (Ay ↥k.nd (Y16 k h))
def SetL(gs:List (LQ))(B S:LQ):Prop:=∃(d a:LQ) (x:Nat) (b:LQ),ND.Ends (gR (Ug gs) (Zd gs B) (amg gs (Zd gs B))) (Ug gs) (d++[Ug gs])/\d.reverse=a++x::b/\x∈S/\(∀w∈a,∀z,RL gs B z w->RL gs B w z->z=w)/\S.Pairwise (·<=·)
structure Dstep(gs:List (LQ))(B S:LQ)(hd:Nat)(R:LQ):Prop where
 sc:DB.Scc (Ug gs) (gof gs) B S
 hS:hd∈S
 ct:∃doors:LQ,(∀x,x∈doors↔x∈S/\(x=0\/∃p,p<Ug gs/\p∉S/\x∈gof gs p))/\CT (amg gs (S.filter (·≠hd))) [] (doors.filter (·≠hd)) R/\(∀m∈S,∃R',CT (amg gs (S.filter (·≠m))) [] (doors.filter (·≠m)) R'/\(Ug R)<=Ug R')/\doors=S.filter (λx=>decide (x∈doors))/\∃i:Nat,S[i]?=some hd/\∀(j m:Nat),j<i->S[j]?=some m->∃R',CT (amg gs (S.filter (·≠m))) [] (doors.filter (·≠m)) R'/\(Ug R)<Ug R'
 st:SetL gs B S
 sub:∀p∈R,p∈S/\p≠hd
def SetL.uniq{gs:List (LQ)}{B S o:LQ}(f:DB.Scc (Ug gs) (gof gs) B S)(c:DB.Scc (Ug gs) (gof gs) B o)(h:SetL gs B S)(h':SetL gs B o):S=o:=by
 let(d,O,x,N,L,e,n,A,F):=h;let(P,H,C,G,s,E,i,t,p):=h';have M:=List.append_cancel_right (L.uniq s);subst M;rw[e] at E;have g:∀{S:LQ} {x:Nat},DB.Scc (Ug gs) (gof gs) B S->x∈S->¬∀z,RL gs B z x->RL gs B x z->z=x:=by
  intro S x f r A;obtain⟨l,D,I⟩:∃l∈S,l≠x:=by
   match S,f.two,f.nd,r with
   | u::v::w,_,J,_=>
    by_cases e:u=x
    .refine(v,by simp,λz=>?_);have:=(Hq.mp J).1;show this (by simp[e,z])
    .exact(u,by simp,e)
  show I (A l (f.mu l D x r) (f.mu x r l D))
 have K:x=C:=by
  rcases List.append_eq_append_iff.mp E with⟨a,m,k⟩|⟨a,m,k⟩
  .cases a with
   | nil=>show(List.cons.inj k).1
   | cons y a=>have:=(List.cons.inj k).1;subst this;show absurd (t x (by rw[m];simp)) (g f n)
  .cases a with
   | nil=>show(List.cons.inj k).1.symm
   | cons y a=>have:=(List.cons.inj k).1;subst this;show absurd (A C (by rw[m];simp)) (g c i)
 subst K;have q:∀y,y∈S↔y∈o:=λy=>(λj=>c.all x i y (f.lt y j).1 (f.lt y j).2 (f.mu x n y j) (f.mu y j x n),λj=>f.all x n y (c.lt y j).1 (c.lt y j).2 (c.mu x i y j) (c.mu y j x i));show List.Perm.eq_of_pairwise (le:=(·<=·)) (λa b _ _ m k=>Nat.le_antisymm m k) F p ((List.perm_ext_iff_of_nodup f.nd c.nd).mpr q)
def Dstep.uniq{gs:List (LQ)}{B S o R p:LQ}{b a:Nat}(h:Dstep gs B S b R)(k:Dstep gs B o a p):S=o/\b=a/\R=p:=by
 have C:=SetL.uniq h.sc k.sc h.st k.st;subst C;let(n,t,g,v,E,l,i,y):=h.ct;let(m,s,f,u,D,j,e,w):=k.ct;have A:n=m:=by rw[E,D];show List.filter_congr λx _=>?_;have:x∈n↔x∈m:=(t x).trans (s x).symm;erw[this]
 subst A;have z:b=a:=by
  rcases Nat.lt_trichotomy l j with lt|rfl|lt
  .let(G,d,r):=w l b lt i;have:=g.uniq d;subst this;let(F,c,q):=v a k.hS;have:=f.uniq c;subst this;lia
  .rw[i] at e;show Hb e
  .let(G,d,r):=y j a lt e;have:=f.uniq d;subst this;let(F,c,q):=u b h.hS;have:=g.uniq c;subst this;lia
 subst z;show(rfl,rfl,g.uniq f)
def Dstep.sp{gs:List (LQ)}{B S R:LQ}{b:Nat}(cd:Cd gs)(h:Dstep gs B S b R):DB.Sp (Ug gs) (gof gs) B S b R:=by let(a,_,c,_,_):=h.ct;show(cd,h.sc,h.hS,↥c.nd,h.sub)
def Dstep.door{gs:List (LQ)}{B S R:LQ}{d p u:Nat}(h:Dstep gs B S d R)(g:p∈S)(b:p≠d)(f:u<Ug gs)(a:u∉S)(e:p∈gof gs u):p∈R:=by let(c,i,j,_):=h.ct;show(j.st p (Di.mpr ((i p).mpr (g,.inr (u,f,a,e)),↥b))).resolve_left 's'
structure DI(g0 gs:List (LQ))(os B:LQ):Prop where
 cd:Cd gs
 two:∀l∈gs,Ug l<=2
 pos:0<Ug gs
 ol:Ug os=Ug gs
 bn:B.Nodup
 bl:∀x∈B,x<Ug gs
 o0:os.getD 0 0=0
 olt:∀x,x<Ug gs->os.getD x 0<Ug g0
 ov:∀x,x<Ug gs->(gof gs x).map (λy=>os.getD y 0)=gof g0 (os.getD x 0)
def DI.begin(cd:Cd g0)(b:∀l∈g0,Ug l<=2)(pos:0<Ug g0):DI g0 g0 (Aj (Ug g0)) []:=by
 have a:∀x,x<Ug g0->(Aj (Ug g0)).getD x 0=x:=λx h=>by rw[Ad,Ho h];rfl
 show(cd,b,pos,by simp,List.nodup_nil,λx d=>by simp at d,a 0 pos,λx h=>by rw[a x h];show h,λx h=>?_);rw[a x h];show(Hu (g:=id) λy c=>a y (cd x h y c)).trans (Mx _)
section
variable{g0 gs:List (LQ)}{os B S R:LQ}{hd:Nat}
def Zb2(i:DI g0 gs os B){x:Nat}(h:x<Ug gs+Ug R):(os++R.map λp=>os.getD p 0).getD x 0=os.getD (DB.pj (Ug gs) R x) 0:=by
 ext DB.pj;rw[Ad];by_cases e:x<Ug gs
 .rw[ng e,De (by rw[i.ol];show e),<-Ad]
 .rw[nc e,Dg (by rw[i.ol];lia),i.ol,Ch,Aa 'o',Ad (l:=R),Aa 'o'];rfl
def DI.step(i:DI g0 gs os B)(h:Dstep gs B S hd R):DI g0 (nxt gs S R) (os++R.map λp=>os.getD p 0) (B++[hd]):=by
 have s:=h.sp i.cd;have m:=h.sc.lt hd h.hS;show(λx c y f=>?_,λl o=>?_,by rw[Yz];have:=i.pos;lia,by rw[Yz,Ag,Ai,i.ol],?_,λx c=>?_,?_,λx c=>?_,λx c=>?_)
 .rw[Yz] at c |-;rw[Sx c] at f;show s.cl' c y f
 .have d:∀p,(gof gs p).length<=2:=λp=>by
   show(gs.getD p []).length<=2;rw[Ad];cases e:gs[p]? with
   | none=>simp
   | some l=>show i.two l (Am e)
  let(k,j):=Ke o;have g:=(Ab.mp j).1;rw[Yz] at g;have e:l=gof (nxt gs S R) k:=by change l=(nxt gs S R).getD k [];rw[Ad,j];rfl
  rw[e,Sx g];ext DB.nx;split
  .split
   .show d _
   .rw[Ai];show d _
  .rw[Ai];show d _
 .refine Dt.mpr (i.bn,by simp,λa q b n=>?_);rw[Af] at n;subst n;show λz=>m.2 (z ▸ q)
 .rw[Yz];rcases Ap.mp c with c|c
  .have:=i.bl x c;lia
  .rw[Af] at c;subst c;have:=m.1;lia
 .have p:=i.pos;rw[Zb2 i 'o',DB.pj_old p];show i.o0
 .rw[Yz] at c;rw[Zb2 i c];show i.olt _ (s.pj_lt c)
 .rw[Yz] at c;rw[Zb2 i c,<-i.ov _ (s.pj_lt c),<-s.over c,Sx c,Hw];show Hu λy f=>Zb2 i (s.cl' c y f)
end
def Al(gs:List (LQ))(B:LQ):Prop:=∀a∈Zd gs B,∀b,RL gs B b a->RL gs B a b->b=a
def Zo1{gs:List (LQ)}{B d T:LQ}(cd:Cd gs)(k:ND.Ends (gR (Ug gs) (Zd gs B) (amg gs (Zd gs B))) (Ug gs) (d++[Ug gs]))(f:Sq (into (amg gs (Zd gs B)) (Zd gs B)) d.reverse T):Al gs B:=by let(g,l):=Nn cd k;let(e,c):=Zk0 cd f (Ww g);show λa h b j i=>c a (Dl.mpr (l a h)) b j i
structure Dst(M M':Z2)(gs:List (LQ))(os B:LQ)(t:D):Prop where
 kp:Kp M M'
 hg:M'[Ug M]?=some (.lst (tupD gs))
 ho:M'[Ug M+1]?=some (.lst (natD os))
 hd:M'[Ug M+2]?=some (.dct (begD B))
 tg:(t= .non/\Al gs B)\/∃r S,t= .ref r/\(Ug M)+3<=r/\M'[r]?=some (.lst (natD S))/\DB.Scc (Ug gs) (gof gs) B S/\SetL gs B S
def kp_c{M a:Z2}{i:Nat}{c:Cell}(k:Kp M a)(h:M[i]?=some c):a[i]?=some c:=by let(N,rfl):=k;show Z5 h
def Yo8{gs:List (LQ)}{B T R s:LQ}(b:CT h T s R)(a:∀p∈R,p∈Zd gs B):Ug R<=Ug gs:=
 ni (Ay (Dt.mp b.nd).2.1 a) (Qs gs B)
def Ym7{gs:List (LQ)}{os B:LQ}(v:Kp M b)
  (n:b[Ug M]?=some (.lst (tupD gs))) (w:b[Ug M+1]?=some (.lst (natD os))) (f:b[Ug M+2]?=some (.dct (begD B))) (cd:Cd gs) (i:∀l∈gs,Ug l<=2) (H:Ug gs<64)
  (q:∀t h,Dst M h gs os B t->Q t h):Zf5 [.ref (Ug M),.ref (Ug M+2)] b Q Z:=by
 have J:=c_lt f;show(_,_,gs,B,rfl,cL n,f,'o',i,λd g=>(λu x s T R a c o y G=>(?_,λS h r p A k F I=>?_),λT h c k=>?_))
 .have:=Yo8 o y;lia
 .refine q _ _ (v.trans k,kp_c k n,kp_c k w,kp_c k f,.inr (r,S,rfl,'o',F,Zz2 (Y93 cd g a c o y G) p,?_));let(C,_):=Nn cd g;have m:(u++x::s).Nodup:=by rw[<-a];show Ww C
  let(E,_,D):=Dt.mp m;let(e,j):=Zk0 cd c E;show(d,u,x,s,g,a,p.mem_iff.mpr ((o.st x 's').resolve_left λz=>D x (e ▸ z) x 's' rfl),j,A)
 .show q _ _ (v.trans k,kp_c k n,kp_c k w,kp_c k f,.inl (rfl,Zo1 cd g c))
def te_vvv{f i j k:Nat}{x y z:D}{a:DEnv}{sp:DSp}(e:c.Γ[f]?=some sp)(hi:a[i]?=some (some x))(d:a[j]?=some (some y))(b:a[k]?=some (some z))(h:sp [x,y,z] M Q X):te c X (.call f (.cons (.var i) (.cons (.var j) (.cons (.var k) .nil)))) a M Q:=by erw[te,tes,e,hi,d,b];show h
def te_vvvv{f i j k l:Nat}{x y z u:D}{a:DEnv}{sp:DSp}(g:c.Γ[f]?=some sp)(hi:a[i]?=some (some x))(e:a[j]?=some (some y))(d:a[k]?=some (some z))(b:a[l]?=some (some u))(h:sp [x,y,z,u] M Q X):te c X (.call f (.cons (.var i) (.cons (.var j) (.cons (.var k) (.cons (.var l) .nil))))) a M Q:=by erw[te,tes,g,hi,e,d,b];show h
def te_vvve{f i j k:Nat}{x y z:D}{a:DEnv}{sp:DSp}(g:c.Γ[f]?=some sp)(hi:a[i]?=some (some x))(d:a[j]?=some (some y))(b:a[k]?=some (some z))(h:te c X e a M λu l=>sp [x,y,z,u] l Q X):te c X (.call f (.cons (.var i) (.cons (.var j) (.cons (.var k) (.cons e .nil))))) a M Q:=by erw[te,tes,g,hi,d,b];show h
def Ys2{M a:Z2}(h:Kq M a):Kp M a:=by
 show(a.drop (Ug M),?_);show Ic λi=>?_;by_cases e:i<Ug M
 .rw[De e];have:=h i _ (Aa e);rw[this,Aa e]
 .rw[Dg 'o',List.getElem?_drop];congr 1;lia
def Y74(l:LQ):natD l=(l.map fun(x:Nat)=>(x:Int)).map D.int:=by ext natD;rw[Hw];rfl
def Zz4{Γ G}{a r:Nat}{g0 gs:List (LQ)}{os B S:LQ}
  (g7:Γ[7]?=some Zf5) (g8:Γ[8]?=some Nq) (g9:Γ[9]?=some Sc) (g10:Γ[10]?=some (Zi8 Sc)) (g12:Γ[12]?=some Zt8)
  (i:DI g0 gs os B) (X:Ug gs<64) (g:DB.Scc (Ug gs) (gof gs) B S) (z0:SetL gs B S) (kp:Kp M F) (hg:F[Ug M]?=some (.lst (tupD gs))) (ho:F[Ug M+1]?=some (.lst (natD os))) (hd:F[Ug M+2]?=some (.dct (begD B))) (lr:Ug M+3<=r) (hr:F[r]?=some (.lst (natD S)))
  (q:∀h R,Dstep gs B S h R->(nxt gs S R).length<64/\∀W t d5 d6,Dst M W (nxt gs S R) (os++R.map λp=>os.getD p 0) (B++[h]) t->C [↑a,↑(Ug M),some (.ref (Ug M+1)),some (.ref (Ug M+2)),some t,d5,d6,d7,d8] W):
  tss (K,Γ,G) Z Vp {nx:=C,rt:=RQ,bk:=bk,ct:=C} [↑a,↑(Ug M),some (.ref (Ug M+1)),some (.ref (Ug M+2)),↑r,d5,d6,d7,d8] F:=by
 have lS:Ug S<=Ug gs:=ni (Ay g.nd λx A=>Yn.mpr (g.lt x A)) (Qs gs B);have sl:∀p∈S,p<Ug gs:=λp L=>(g.lt p L).1;erw[Vp,tss_cons,tss_nil,U.ts];show te_vv g8 rfl rfl (_,_,gs,S,rfl,cL hg,cL hr,g.nd,'o','o',i.two,λH M1 r1 p0 J h1 l1=>?_);have E:=kp_c J hg;have s0:=kp_c J ho;have T:=kp_c J hd;have k:=kp_c J hr;have c:∀x∈S.filter (λx=>decide (x∈H)),x∈S:=λx A=>(Di.mp A).1;have f:(S.filter (λx=>decide (x∈H))).length<=1000:=ni (Ha _ _) 'o';have u:∀x,x∈S.filter (λx=>decide (x∈H))↔x∈S/\(x=0\/∃p,p<Ug gs/\p∉S/\x∈gof gs p):=λx=>by rw[Di,decide_eq_true_eq,p0]
 have d:S.filter (λx=>decide (x∈H))=S.filter (λx=>decide (x∈S.filter (λx=>decide (x∈H)))):=List.filter_congr λx A=>by simp[Di,A]
 generalize S.filter (λx=>decide (x∈H))=doors at h1 c f u d
 try dsimp only
 rw[tg_one];show Za ?_;erw[tss_cons,tss_nil,U.ts];show te_vvv g10 rfl rfl rfl (_,_,_,S.map fun(x:Nat)=>(x:Int),λx l=>∃(y:Nat) (R:LQ),x=(y:Int)/\CT (amg gs (S.filter (·≠y))) [] (doors.filter (·≠y)) R/\l=Ug R,rfl,by rw[<-Y74];show cL k,by rw[Ai];have:=g.two;lia,λW b x A=>?_,λi0 m o hl W b=>?_)
 .let(y,hy,rfl):=Ar.mp A;show(_,_,_,y,gs,S,doors,rfl,cL (b _ _ E),cL (b _ _ k),g.nd,'o',sl,i.two,cL (b _ _ h1),f,c,λR M3 r3 V _ w h3 _=>((_,_,rfl,cL h3,y,R,rfl,V,Z3 R),λj Y e=>kp_c w e))
 rw[Ch,Ig] at o;let(h,O,rfl):=o;have hh:h∈S:=Am O;have v0:=Ys2 b;rw[tg_one];show Za ?_;erw[tss_cons,tss_nil,U.ts];show te_vvve g12 rfl rfl rfl (te_vvvv g9 rfl rfl rfl rfl ?_);show(_,_,_,h,gs,S,doors,rfl,cL (b _ _ E),cL (b _ _ k),g.nd,'o',sl,i.two,cL (b _ _ h1),f,c,λR M3 r3 V hR w h3 l3=>?_);have st:Dstep gs B S h R:=by
  let(l,(y,R0,ey,n0,el),v):=hl;have e1:y=h:='o';subst e1;have eR:=Yi9 V n0;have s:∀(j m:Nat),S[j]?=some m->∃n,CT (amg gs (S.filter (·≠m))) [] (doors.filter (·≠m)) n/\(Ug R)<=Ug n/\(j<i0->(Ug R)<Ug n):=λj m o=>by let(l',(y',n,y1,m0,x1),le,X):=v j (m:Int) (by rw[Ch,o];rfl);have e2:y'=m:='o';subst e2;show(n,m0,'o',λz=>by have:=X z;lia)
  show(g,hh,(doors,u,V,λm o=>?_,d,i0,O,λj m X o=>?_),z0,hR)
  .let(j,hj):=Ke o;let(n,q1,q2,_):=s j m hj;show(n,q1,q2)
  .let(n,q1,_,q3):=s j m o;show(n,q1,q3 X)
 let(I,o0):=q h R st;have i2:=i.step st;have r0:=kp_c w (b _ _ E);have t0:=kp_c w (b _ _ s0);have q0:=kp_c w (b _ _ T);have u0:=kp_c w (b _ _ k);have z1:Ug M+3<=Ug W:=by have:=c_lt (b _ _ T);lia
 have nR:R.Nodup:=by simpa using V.nd
 have lR:Ug R<=Ug gs:=by rw[Yz] at I;show ni (Ay nR λp L=>(hR p L).1) lS
 show(Ug M,Ug M+1,r,r3,gs,os,S,R,rfl,r0,t0,cL u0,cL h3,'o','o','o','o','o',nR,'o','o','o',i.ol,λp L=>sl p (hR p L).1,i.two,λM4 k4 P N=>?_);have y0:∀j Y,Ug M≠j->(Ug M)+1≠j->M3[j]?=some Y->M4[j]?=some Y:=λj Y n1 n2 e=>by have:=kp_c k4 e;rwa[Dk n2,Dk n1] at this
 have Q:=y0 _ _ 'o' 'o' q0;have w0:Kp M M3:=((kp.trans J).trans v0).trans w;have x0:Kp M M4:=by have a1:=w0.trans k4;have a2:=Zt7 a1 'o' (c':= .lst (natD (os++R.map λp=>os.getD p 0))) (by rw[Dk 'o'];show N);show Zt7 a2 (na _) P
 show Za ?_;have hB:h∉B:=(g.lt h hh).2;have lB:Ug B<=Ug gs:=ND.Zu _ _ i.bn i.bl;rfl';show .inr (begD B,_,cD Q,rfl,by rw[Wb];show Z1 'o',?_);rfl';rw[Xi hB];show Ym7 (Kp.set x0 'o') (c_ne P 'o') (c_ne N 'o') (Yy Q) i2.cd i2.two I λt M5 ds=>?_;show o0 _ _ _ _ ds
def nodN(a:List Nd)(gs:List (LQ))(os:LQ):List Nd:=os.mapIdx λk o=>(a.getD o .fin).wt (gof gs k)
def Wx(j:Uj):DSp:=λk M Q Z=>∃(a:Nat) (e:List Nd) (I:Nat->List (LQ)->LQ->LQ->Prop),k=[.ref a]/\readL M a=some (e.map Nd.d)/\(∃m,I m (gsOf e) (Aj (Ug e)) [])/\
 (∀m b c B,I m b c B->(Ug b)<64/\DI (gsOf e) b c B)/\
 (∀m b c B S h R,I m b c B->(Ug b)<=40->Dstep b B S h R->∃i,i<m/\I i (nxt b S R) (c++R.map λp=>c.getD p 0) (B++[h]))/\
 (∀m b c B f,I m b c B->40<Ug b->Kp M f->Z j .non f)/\
 ∀m b c B d f r g,I m b c B->(Ug b)<=40->Al b B->ND.Ends (gR (Ug b) [0] (gof b)) (Ug b) (d++[Ug b])->Kp M f->f[r]?=some (.lst ((gra (nodN e b c) d.reverse).map Nd.d))->f[g]?=some (.lst (natD (d.reverse.map λx=>c.getD x 0)))->(Ug M)<=r->r<g->Q (.tup [.ref r,.ref g]) f
def Kp.le{M a:Z2}(k:Kp M a):Ug M<=Ug a:=by let(N,rfl):=k;rw[Ag];lia
def G3(n:Nat):Wg 0 n=natD (Aj n):=by unfold Wg natD;show Hu λx _=>by rw[Int.zero_add]
def Br{a:List Nd}{o:Nat}(h:o<Ug a):gof (gsOf a) o=(a.getD o .fin).gs.reverse:=by show(gsOf a).getD o []=_;ext gsOf;rw[Ad,Ad,Ch,Aa h];rfl
def S8(a:List Nd)(gs:List (LQ))(os:LQ):(nodN a gs os).length=Ug os:=by ext nodN;simp
def G7{a:List Nd}{gs:List (LQ)}{os:LQ}{k o:Nat}(h:os[k]?=some o):(nodN a gs os)[k]?=some ((a.getD o .fin).wt (gof gs k)):=by ext nodN;rw[Hv,h];rfl
section
variable{nds:List Nd}{gs:List (LQ)}{os B:LQ}
def DI.o(a:DI (gsOf nds) gs os B){k:Nat}(h:k<Ug gs):os[k]?=some (os.getD k 0)/\os.getD k 0<Ug nds/\(gof gs k).length=(nds.getD (os.getD k 0) .fin).gs.length:=by
 have l:=a.olt k h;have b:(gsOf nds).length=Ug nds:=by ext gsOf;simp
 rw[b] at l;show(by rw[Ad,Aa (by rw[a.ol];show h)];rfl,l,?_);have:=congrArg Ug (a.ov k h);rwa[Ai,Br l,Ht] at this
def DI.w(c:DI (gsOf nds) gs os B){k:Nat}(h:k<Ug gs):wy (nodN nds gs os) k=(gof gs k).reverse:=by let(b,d,a):=c.o h;have:=congrArg List.reverse (Nd.wt_gs _ a);rw[Go] at this;rw[V4 (G7 b),this]
def N9{n:Nat}{d:LQ}(a:Wf n [0] (· <n) gf)(e:ND.Ends (gR n [0] gf) n (d++[n])):d.Nodup/\(∀x∈d,x<n)/\∀x∈d,∀t∈gf x,t∈d:=by have f:=Z16 a e;let(i,h,_):=e.facts;show((Dt.mp i).1,f,λx b t c=>?_);have g:=f x b;have:t∈d++[n]:=h x (Ax _ b) t (by ext gR;rw[nc 'o'];show Dl.mpr c);show(Ap.mp this).resolve_right λz=>?_;rw[Af] at z;have:=a.cl x g t c;lia
end
def Zl2{Γ G}{a:Nat}{gs:List (LQ)}{os B:LQ}(h9:G[2]?=some (.int 40))(h5:G[1]?=some (.cls X))(g1:Γ[1]?=some Fe)(g2:Γ[2]?=some Tz)(g3:Γ[3]?=some Vb)
  (g:DI (gsOf b) gs os B) (ha:readL M a=some (b.map Nd.d)) (kp:Kp M u) (S:u[Ug M]?=some (.lst (tupD gs))) (ho:u[Ug M+1]?=some (.lst (natD os))) (q1:40<Ug gs->Z X .non u)
  (q2:Ug gs<=40->∀d k r E,ND.Ends (gR (Ug gs) [0] (gof gs)) (Ug gs) (d++[Ug gs])->Kp M k->k[r]?=some (.lst ((gra (nodN b gs os) d.reverse).map Nd.d))->k[E]?=some (.lst (natD (d.reverse.map λx=>os.getD x 0)))->(Ug M)<=r->r<E->Q (.tup [.ref r,.ref E]) k):
  tss (K,Γ,G) Z Ta {nx:=nx,rt:=Q,bk:=bk,ct:=ct} [↑a,↑(Ug M),some (.ref (Ug M+1)),some (.ref (Ug M+2)),some t,d5,d6,none,none] u:=by
 have lg:(tupD gs).length=Ug gs:=by ext tupD;simp
 delta Ta;rfl';show Zm (cL S) ?_
 try erw[h9]
 rfl';rw[lg];by_cases h:40<Ug gs
 .rw[ng (by simpa using by lia)];rfl';erw[h5];show q1 h
 rw[nc (by simpa using by lia)];replace q2:=q2 'o';have W:Wf (Ug gs) [0] (· <Ug gs) (gof gs):=(λp h=>h,'o',λx c=>by rw[Af] at c;rw[c];show g.pos,λp hp=>by rw[(g.o hp).2.2];show Nd.gs_two _,g.cd);delta Pg;rfl';show(Z0 'd',_,_,Ug gs,[0],(· <Ug gs),gof gs,rfl,cL Zb,Y53 (cL (Z5 S)),W,λd M1 r1 en I h1 l1=>?_);let(V,s,dc):=N9 W en;have q:=Vf h1;have m:=kp_c I (Z5 ho);have R:=kp_c I (Z5 S);have l:Kp M M1:=(kp.app _).trans I;have T:=l.L ha;rfl';show(_,cL m,?_);erw[capD,Az,Dh,Hg,Dz,Dv,Dr,Hh];show Zj (λi e k=>∃j z,e=[j,z,↑a,↑(Ug M)]/\k=M1++[.lst (((nodN b gs os).take i).map Nd.d)]) (none,none,rfl,rfl) ?_ ?_ ?_
 .rintro i e k _ ⟨j,z,rfl,rfl⟩;show(_,cL (Z5 m),rfl)
 .rintro i dx e k C c ⟨j,z,rfl,rfl⟩ U;let(y,v,rfl):=Np c;let(o,f,rfl):=Zp v;have O:i<Ug gs:=by rw[<-g.ol];show(Ab.mp f).1
  let(o1,o2,Y):=g.o O;have eo:os.getD i 0=o:=by rw[o1] at f;show Hb f
  rw[eo] at o2 Y;have hn:b[o]?=some (b.getD o .fin):=by rw[Ad,Aa o2];rfl
  have P:(tupD gs)[i]?=some (.tup (natD (gof gs i))):=by ext tupD;rw[Ch,Aa O];change _=some (D.tup (natD (gs.getD i [])));rw[Ad,Aa O];rfl
  rfl';show ix_l (Z4 T) (Xs hn) (ix_l (cL (Z5 R)) P ?_);show(_,gof gs i,_,rfl,Y,.inr rfl,?_);show(_,cW Zb,by rw[Ai,Hz,S8];show Z1 (by have:=g.ol;lia),?_);show U _ _ (_,_,rfl,?_);rw[Df _ _ (na _),Nat.sub_self,Y2 (G7 f),As];rfl
 rintro e k ⟨j,z,rfl,rfl⟩;rw[Jc,Z3,<-S8 b gs os,Dj];rfl';show(_,_,nodN b gs os,d.reverse,rfl,cL Zb,cL (Z5 q),Ww V,?_,λx c=>?_,λx c t ht=>?_,λM3 r3 H h3 l3=>?_)
 .rw[Ht];have:=ND.Zu _ _ V s;lia
 .rw[S8,g.ol];show s x (Dl.mp c)
 .have c:=Dl.mp c;rw[g.w (s x c)] at ht;show Dl.mpr (dc x c t (Dl.mp ht))
 have n:=kp_c H (Z5 q);have N:=kp_c H (Z5 m);have F:Kp M M3:=(l.app _).trans H;show(_,cL n,?_);erw[capD,Az,Dh,Hg,Dz,Dv,Dr,Hh];show Zj (λi e A=>∃j,e=[j,some (.ref (Ug M+1))]/\A=M3++[.lst (natD ((d.reverse.take i).map λx=>os.getD x 0))]) (none,rfl,rfl) ?_ ?_ ?_
 .rintro i e A _ ⟨j,rfl,rfl⟩;show cL (Z5 n)
 .rintro i dx e A C c ⟨j,rfl,rfl⟩ U;let(y,v,rfl):=Zp c;have ly:=s y (Dl.mp (Am v));have J:(natD os)[y]?=some (.int ((os.getD y 0:Nat):Int)):=by ext natD;rw[Ch,(g.o ly).1];rfl
  rfl';show ix_l (cL (Z5 N)) J ?_;have ld:Ug d<=40:=by have:=ND.Zu _ _ V s;lia
  show(_,cW Zb,by rw[Z3,Ai,Hz,Ht];show Z1 'o',?_);show U _ _ (_,rfl,?_);rw[Df _ _ (na _),Nat.sub_self,Y2 v,As,Az,Dh,Zi];rfl
 rintro e A ⟨j,rfl,rfl⟩;rw[Z3,Dj];show(Z0 'd',q2 d _ _ _ en (F.app _) (Z5 (Vf h3)) Zb (by have:=(l.app [Cell.lst (((nodN b gs os)).map Nd.d)]).le;lia) (c_lt (Vf h3)))
def Zm7{Γ G}(h9:G[2]?=some (.int 40))(h5:G[1]?=some (.cls tg))(g0:Γ[0]?=some Eb)(g1:Γ[1]?=some Fe)(g2:Γ[2]?=some Tz)(g3:Γ[3]?=some Vb)(g7:Γ[7]?=some Zf5)(g8:Γ[8]?=some Nq)(g9:Γ[9]?=some Sc)(g10:Γ[10]?=some (Zi8 Sc))(g12:Γ[12]?=some Zt8):
  ∀ds M Q Z,Wx tg ds M Q Z->tss (K,Γ,G) Z Gy {nx:=λ_ M=>Q .non M,rt:=Q} (start0 F7 ds) M:=by
 rintro ds M Q Z ⟨a,nds,I,rfl,ha,⟨m0,i0⟩,bd,stp,over,fin⟩;let(l0,di0):=bd _ _ _ _ i0;have el:(gsOf nds).length=Ug nds:=by ext gsOf;simp
 erw[Gy,F7,tss_cons,tss_nil];erw[U.ts];show Y87 g0 rfl ha 'o' ?_;rw[tg_one];show Za ?_;erw[tss_cons,tss_nil];rfl';show Zm (Z4 ha) ?_;show('o',by rw[Ai];lia,?_);rw[Ai,Hr,G3];rfl';erw[Ag,Dy,Ku,Nat.zero_add];show Ym7 (gs:=gsOf nds) (os:=Aj (Ug nds)) (B:=[]) (((Kp.new _ _).app _).app _) (Z5 (Z5 Zb)) (Z5 ?_) ?_ di0.cd di0.two l0 λt M1 ds=>?_
 .have:=Zb (M:=M++[Cell.lst (tupD (gsOf nds))]) (c:= .lst (natD (Aj (Ug nds))));simpa using this
 .have:=Zb (M:=M++[Cell.lst (tupD (gsOf nds))]++[.lst (natD (Aj (Ug nds)))]) (c:= .dct (begD []));simpa[begD] using this
 rfl';show(λm σ M2=>∃gs os B t d5 d6,σ=[↑a,↑(Ug M),some (.ref (Ug M+1)),some (.ref (Ug M+2)),some t,d5,d6,none,none]/\I m gs os B/\Dst M M2 gs os B t,(m0,_,_,_,_,_,_,rfl,i0,ds),?_);clear ds;rintro m σ M2 ⟨gs,os,B,t,d5,d6,rfl,im,ds⟩;let(lt,di):=bd _ _ _ _ im;rcases ds.tg with⟨rfl,al⟩|⟨r,S,rfl,lr,hr,sc,sl0⟩
 .rfl';show Za ?_;show Zl2 h9 h5 g1 g2 g3 di ha ds.kp ds.hg ds.ho (λh=>over _ _ _ _ _ im h ds.kp) λh d M3 r r2 en k=>fin _ _ _ _ _ _ _ _ im h al en k
 rfl';show Zm (cL ds.hg) ?_
 try erw[h9]
 have lg:(tupD gs).length=Ug gs:=by ext tupD;simp
 rw[lg];rfl';by_cases h:Ug gs<=40
 .rw[ng 'o'];show Zz4 g7 g8 g9 g10 g12 di lt sc sl0 ds.kp ds.hg ds.ho ds.hd lr hr λhd R st=>by let(m',lm,i'):=stp _ _ _ _ _ _ _ im h st;show((bd _ _ _ _ i').1,λM3 t d5 d6 ds3=>(m',lm,_,_,_,_,_,_,rfl,i',ds3))
 .rw[nc 'o'];show Za ?_;show Zl2 h9 h5 g1 g2 g3 di ha ds.kp ds.hg ds.ho (λh=>over _ _ _ _ _ im h ds.kp) λh'=>absurd h' h
def Zq4{n:Nat}(E:∀x,x<n->∀y∈g x,y<n)(e:∀x,x<n->g x=g' x)(i:OD.OI n g B):OD.OI n g' B:=by
 have p:∀{x:Nat},KS.Rc g 0 x->x<n/\KS.Rc g' 0 x:=by
  intro x r;induction r with
  | here=>show(i.pos,.here)
  | @step a b _ f d=>show(E a d.1 b f,.step d.2 (e a d.1 ▸ f))
 show(i.pos,λx j=>(p (i.re x j)).2,i.bl,λC o c=>?_);have F:OD.Cn g C:=by
  intro x j y l;have r:=c x j y l;clear l;induction r with
  | here=>show .here
  | @step a b q f d=>have t:=OD.rs_in q j;show .step d (OD.mem_rs.mpr (?_,(OD.mem_rs.mp f).2));rw[e a (o a t)];show(OD.mem_rs.mp f).1
 rcases i.cy C o F with h|⟨h,S,k,D,A,w⟩
 .show .inl h
 .show .inr (h,S,(λu m v s=>k.en u m v (by rw[e u m];show s),k.z),D,A,w)
section
variable{gs:List (LQ)}{B S R:LQ}{hd:Nat}
def Zj7(h:CT gf [] [] R):R=[]:=by
 match R,h with
 | [],_=>rfl
 | a::r,h=>
  rcases h.src 0 a rfl with z|⟨j,_,hj,_⟩
  .simp at z
  .lia
def Dstep.zero(cd:Cd gs)(C:OD.OI (Ug gs) (gof gs) B)(h:Dstep gs B S hd R)(h0:0∈S):hd=0/\R=[]:=by
 have none:∀u,u<Ug gs->u∉S->∀y∈gof gs u,y∉S:=by
  intro u K U y hy P;let(j,O,s,G):=OD.nodes (q:=gof gs) (g:=gof gs) (λx z m=>m) (C.re u K);let(i,N,b2,F):=OD.nodes (q:=DB.lk (Ug gs) (gof gs) B) (g:=gof gs) (λx z m=>(DB.mem_lk.mp m).2.1) (h.sc.mu y P 0 h0);have l:∀z∈j,z∈j++i:=λz m=>Ax _ m;have t:∀z∈i,z∈j++i:=λz m=>Dm _ m;have H:KS.Rc (OD.rs (gof gs) (j++i)) u y:=KS.Rc.one (OD.mem_rs.mpr (hy,t y N));have k:∀x∈j++i,KS.Rc (OD.rs (gof gs) (j++i)) x 0/\KS.Rc (OD.rs (gof gs) (j++i)) 0 x:=by
   intro x c;rcases Ap.mp c with c|c
   .exact((OD.rs_mono l (G x c).2.1).trans (H.trans (OD.rs_mono t (F y N).2.1)),OD.rs_mono l (G x c).1)
   .exact(OD.rs_mono t (F x c).2.1,((OD.rs_mono l (G u s).1).trans H).trans (OD.rs_mono t (F x c).1))
  have cn:OD.Cn (gof gs) (j++i):=λx c z m=>(k x c).1.trans (k z m).2;have D:∀{x:Nat},KS.Rc (OD.rs (gof gs) (j++i)) 0 x->x<Ug gs:=by
   intro x V;induction V with
   | here=>show C.pos
   | step _ e E=>show cd _ E _ (OD.mem_rs.mp e).1
  have L:∀x∈j++i,x<Ug gs:=λx c=>D (k x c).2;rcases C.cy _ L cn with nod|⟨d,T,rg,dB,_,sT⟩
  .have I:∀{a b:Nat},a∈j++i->KS.Rc (OD.rs (gof gs) (j++i)) a b->KS.Rc (DB.lk (Ug gs) (gof gs) B) a b:=by
    intro a b ha r;induction r with
    | here=>show .here
    | @step v w W e E=>let(e1,e2):=OD.mem_rs.mp e;have J:=OD.rs_in W ha;show .step E (DB.mem_lk.mpr ((L v J,nod v J),e1,nod w e2))
   show U (h.sc.all 0 h0 u K (nod u (l u s)) (I (l 0 O) (k u (l u s)).2) (I (l u s) (k u (l u s)).1))
  .have:=rg.z (sT 0 (l 0 O));subst this;show(h.sc.lt 0 h0).2 dB
 let(f,n,ct,Y,_):=h.ct;have only:∀x∈f,x=0:=by
  intro x c;let(Q,A):=(n x).mp c;rcases A with A|⟨p,p1,p2,p3⟩
  .show A
  .show absurd Q (none p p1 p2 x p3)
 have d0:0∈f:=(n 0).mpr (h0,.inl rfl);let(R',o,Z):=Y 0 h0;have e0:f.filter (λx=>decide (x≠0))=[]:=List.filter_eq_nil_iff.mpr λx c=>by simp[only x c]
 rw[e0] at o;have:=Zj7 o;subst this;have M:R=[]:=Du.mp ↥Z;show(?_,M);apply Lg;intro X;have:=(ct.st 0 (Di.mpr (d0,by simpa using λz=>X z.symm))).resolve_left 's';rw[M] at this;simp at this
def Dstep.os(cd:Cd gs)(s:OD.OI (Ug gs) (gof gs) B)(h:Dstep gs B S hd R):OD.Os (Ug gs) (gof gs) B S hd R:=by
 have z:=λv=>(h.zero cd s v).1;have a:=fun{p u:Nat}=>h.door (p:=p) (u:=u);let(k,g,m,x,_):=h.ct;show(h.sp cd,λu t r y d b=>?_,λp f y d b=>?_,λi p f=>?_,z)
 .by_cases e:y=hd
  .show .inl e
  .show .inr (a b e t r d)
 .by_cases e:y=hd
  .show .inl e
  .right;show(m.cl p f y (Jh.mpr (d,Di.mpr (b,↥e)))).resolve_left 's'
 .rcases m.src i p f with w|⟨j,q,hj,hq,w⟩
  .let(o,l):=Di.mp w;let(n,c):=(g p).mp o;rcases c with rfl|c
   .have:=z n;simp at l;show absurd this.symm l
   .show .inl c
  .show .inr (j,q,hj,hq,(Jh.mp w).1)
def Ya6(cd:Cd gs)(b:OD.OI (Ug gs) (gof gs) B)(h:Dstep gs B S hd R):OD.OI (nxt gs S R).length (gof (nxt gs S R)) (B++[hd]):=by rw[Yz];show Zq4 (λx a=>(h.sp cd).cl' a) (λx a=>(Sx a).symm) (OD.OI.step (h.os cd b) b)
def Zq0{n m:Nat}{D:LQ}{kd:Nat->DB.Kd}(e:∀x,x<n->g x=g' x)(i:DB.IK n g D f kd m):DB.IK n g' D f kd m:=by
 have j:=Yn2 (n:=n) (D:=D) (D':=D) e λ_=>Uc;show(i.hf,λx y a b p o h d=>?_,i.bl,λx y a b c l=>?_,λx a c=>?_,i.ze)
 .rw[<-j] at h d;show i.cl x y a b p o h d
 .rw[<-j];show i.ma x y a b c l
 .let(s,k):=i.su x a c;show(s,λy b=>k y (by rw[e x a];show b))
def Zm5(cd:Cd gs)(d:OD.OI (Ug gs) (gof gs) B)(h:Dstep gs B S hd R)(i:DB.IK (Ug gs) (gof gs) B f kd m):
  ∃c a b,DB.IK (nxt gs S R).length (gof (nxt gs S R)) (B++[hd]) c a b/\DB.tot (nxt gs S R).length (B++[hd]) c a b+1<=DB.tot (Ug gs) B f kd m:=by
 let(c,a,b,g,t):=i.step (h.sp cd) (h.zero cd d);let(e,k):=g.perm (D':=B++[hd]) λx=>by simp[or_comm]
 rw[Yz];show(c,a,b,Zq0 (λx j=>(Sx j).symm) e,by rw[k];show t)
end
def Zb7{n:Nat}{d:LQ}(pos:0<n)(v:∀x,x<n->∀y∈gf x,y<n)(u:ND.Ends (gR n [0] gf) n (d++[n])):ND.Ends (λk=>(gf k).reverse) 0 d:=by
 have g0:gR n [0] gf n=[0]:=ng rfl;have g1:∀x,x<n->gR n [0] gf x=(gf x).reverse:=λx c=>nc 'o';let z:Nat->ND.St:=λk=>ND.itr (λk=>(gf k).reverse) k ([0],[#v[0,(gf 0).reverse]],[]);have l:∀k,ND.In (· <n) (z k):=by
  intro k;induction k with
  | zero=>show(λx c=>by rw[Af.mp c];show pos,λp w=>by rw[Af.mp w];show(pos,λt f=>v 0 pos t (Dl.mp f)),λx c=>by cases c)
  | succ k a=>show a.stp λx c t f=>v x c t (Dl.mp f)
 have i:∀k,ND.itr (gR n [0] gf) (k+1) ([n],[#v[n,gR n [0] gf n]],[])=(n::(z k).b,(z k).s++[#v[n,[]]],(z k).d)\/∃j,(z j).s=[]/\ND.itr (gR n [0] gf) (j+1) ([n],[#v[n,gR n [0] gf n]],[])=(n::(z j).b,[#v[n,[]]],(z j).d):=by
  intro k;induction k with
  | zero=>show .inl ?_;change ND.stp _ ([n],[#v[n,gR n [0] gf n]],[])=_;rw[g0];show(if (0:Nat)∈[n] then _ else _)=_;rw[nc (by simp;lia),g1 0 pos];rfl
  | succ k a=>
   rcases a with a|a
   .have q:=l k;have A:z (k+1)=ND.stp (λk=>(gf k).reverse) (z k):=rfl;rw[show ND.itr (gR n [0] gf) (k+1+1) ([n],[#v[n,gR n [0] gf n]],[])=ND.stp (gR n [0] gf) (ND.itr (gR n [0] gf) (k+1) ([n],[#v[n,gR n [0] gf n]],[])) from rfl,A];cases m:z k with
    | mk b s d=>
     rw[m] at a q;cases s with
     | nil=>show .inr (k,by rw[m],by rw[m];show a)
     | cons p s=>
      show .inl ?_;let(x,r):=p;rw[a];cases r with
      | nil=>rfl
      | cons t r=>
       have f:=(q.s #v[x,t::r] Aw).2 t Aw;show(if t∈n::b then _ else _)=_;by_cases g:t∈b
       .rw[ng (An _ g)];rw[show ND.stp (λk=>(gf k).reverse) (b,#v[x,t::r]::s,d)=(b,#v[x,r]::s,d) from ng g];rfl
       .rw[nc (λz=>(Ak.mp z).elim (λe=>by lia) g),show ND.stp (λk=>(gf k).reverse) (b,#v[x,t::r]::s,d)=(b++[t],#v[t,(gf t).reverse]::#v[x,r]::s,d) from nc g,g1 t f];rfl
   .show .inr a
 have o:=u;let(K,b,B):=u;rcases i K with h|⟨j,hj,h⟩
 .have:ND.itr (gR n [0] gf) (K+1) ([n],[#v[n,gR n [0] gf n]],[])=(b,[],d++[n]):=by change ND.stp _ (ND.itr _ K _)=_;rw[B];rfl
  rw[this] at h;have:=congrArg ND.St.s h;simp at this
 .have C:ND.Ends (gR n [0] gf) n ((z j).d++[n]):=(j+2,n::(z j).b,by
   change ND.stp _ (ND.itr _ (j+1) _)=_;rw[h];rfl)
  have:=List.append_cancel_right (o.uniq C);rw[this];show(j,(z j).b,?_);change z j=_;rw[<-hj]
inductive Rn (g0:List (LQ)):Nat->List (LQ)->LQ->LQ->Prop where
 | z:Rn g0 0 g0 (Aj (Ug g0)) []
 | s {k:Nat} {gs:List (LQ)} {os B S R:LQ} {h:Nat}:Rn g0 k gs os B->(Ug gs)<=40->Dstep gs B S h R->Rn g0 (k+1) (nxt gs S R) (os++R.map λp=>os.getD p 0) (B++[h])
def Yn1{gs:List (LQ)}{B S R:LQ}(d:Al gs B)(st:Dstep gs B S h R):False:=by
 match S,st.sc.two,st.sc with
 | a::b::r,_,c=>have:=d a (Yn.mpr (c.lt a 's')) b (c.mu b 's' a 's') (c.mu a 's' b 's');show(Hq.mp c.nd).1 (by simp[this])
def Rn.uniq{k:Nat}{gs:List (LQ)}{os B:LQ}(h:Rn g0 k gs os B):∀{b a d},Rn g0 k b a d->gs=b/\os=a/\B=d:=by
 induction h with
 | z=>intro _ _ _ k;cases k;show(rfl,rfl,rfl)
 | s _ _ e g=>
  intro _ _ _ k;cases k with
  | s f _ c=>let(rfl,rfl,rfl):=g f;let(rfl,rfl,rfl):=e.uniq c;show(rfl,rfl,rfl)
def Rn.pre{gs:List (LQ)}{os B:LQ}(h:Rn g0 j gs os B):∀k,k<j->∃a b c S R x,Rn g0 k a b c/\(Ug a)<=40/\Dstep a c S x R:=by
 induction h with
 | z=>intro k g;lia
 | @s j gs os B S R x r l d f=>
  intro k g;by_cases e:k=j
  .subst e;show(_,_,_,_,_,_,r,l,d)
  .show f k 'o'
def Fn(gs:List (LQ))(B:LQ):Prop:=40<Ug gs\/Al gs B
def Rn.one{k j:Nat}{gs d:List (LQ)}{os B e g:LQ}(h:Rn g0 k gs os B)(h':Rn g0 j d e g)(f:Fn gs B)(o:Fn d g):gs=d/\os=e/\B=g:=by
 have m:∀{k j:Nat} {gs d:List (LQ)} {os B e g:LQ},Rn g0 k gs os B->Rn g0 j d e g->Fn gs B->k<j->False:=by
  intro k j gs d os B e g h h' f i;let(a,b,c,S,R,x,r,l,n):=h'.pre k i;let(rfl,rfl,rfl):=h.uniq r;rcases f with f|f
  .lia
  .show Yn1 f n
 rcases Nat.lt_trichotomy k j with i|rfl|i
 .exact(m h h' f i).elim
 .show h.uniq h'
 .exact(m h' h o i).elim
def Wt(gs:List (LQ))(B:LQ)(w:Nat):Prop:=∃f a m,DB.IK (Ug gs) (gof gs) B f a m/\(Ug B)+DB.tot (Ug gs) B f a m<=w
def Wt.step{gs:List (LQ)}{B S R:LQ}{h w:Nat}(cd:Cd gs)(c:OD.OI (Ug gs) (gof gs) B)(st:Dstep gs B S h R)(i:Wt gs B w):Wt (nxt gs S R) (B++[h]) w:=by let(f,k,m,e,j):=i;let(g,a,d,b,t):=Zm5 cd c st e;show(g,a,d,b,by rw[Ag,Au];lia)
def Wt.many{gs:List (LQ)}{w:Nat}(i:Wt gs B w):Ug gs<=w:=by let(f,c,m,a,b):=i;have:=a.many;lia
def Ya8(gs:List (LQ))(S:LQ):nxt gs S []=gs:=by
 unfold nxt half;rw[Dh,Hd];show Ic λk=>?_;rw[Hv];cases gs[k]? with
 | none=>rfl
 | some l=>have:l.map (cpy (Ug gs) [])=l:=(Hu (g:=id) λx _=>nc 's').trans (Mx _);rw[Ud,this];split<;>rfl
def Zx8(e:∀x y,y∈g x↔y∈g' x){a x:Nat}(h:GT.Av g a x):GT.Av g' a x:=by
 induction h with
 | zero h=>show .zero h
 | step _ h n b=>show .step b ((e _ _).mp h) n
def Zl0{n:Nat}(e:∀x y,y∈g x↔y∈g' x)(h:OD.Ord n g):OD.Ord n g':=λk c t b a d=>h k c t ((e _ _).mpr b) a (Zx8 (λx y=>(e x y).symm) d)
def Dstep.none{gs:List (LQ)}{B S R:LQ}(cd:Cd gs)(od:OD.Ord (Ug gs) (gof gs))(g:OD.OI (Ug gs) (gof gs) B)(st:Dstep gs B S h R):R=[]:=by
 let(r,f,only,z):=OD.one_door cd od g st.sc;let(a,c,m,i,_):=st.ct;let(n,b,j):=i r f;have l:a.filter (λx=>decide (x≠r))=[]:=List.filter_eq_nil_iff.mpr λx k=>by
  let(d,e):=(c x).mp k;have:x=r:=by
   rcases e with rfl|⟨p,p1,p2,p3⟩
   .exact(z d).symm
   .show only p p1 p2 x p3 d
  simp[this]
 rw[l] at b;have:=Zj7 b;subst this;show Du.mp ↥j
def Dx(gs:List (LQ))(os B:LQ):Prop:=∀x y,x<Ug gs->y<Ug gs->x∉B->y∉B->RL gs B x y->RL gs B y x->os.getD x 0=os.getD y 0->x=y
structure Iv(nds:List Nd)(m:Nat)(gs:List (LQ))(os B:LQ):Prop where
 rn:∃k,Rn (gsOf nds) k gs os B
 di:DI (gsOf nds) gs os B
 oi:OD.OI (Ug gs) (gof gs) B
 sm:∃f kd M,DB.IK (Ug gs) (gof gs) B f kd M/\DB.tot (Ug gs) B f kd M<=m
 dx:Dx gs os B
 wk:∀w,Wt (gsOf nds) [] w->Wt gs B w
 od:OD.Ord (Ug nds) (wy nds)->gs=gsOf nds/\os=Aj (Ug nds)
 le:Ug gs<64
def W3(a:List Nd):(gsOf a).length=Ug a:=by ext gsOf;simp
def Ny{a:List Nd}(x y:Nat):y∈wy a x↔y∈gof (gsOf a) x:=by
 by_cases h:x<Ug a
 .rw[Br h,Dl,Ad,Aa h,Ki,V4 (Aa h)]
 .have c:wy a x=[]:=by ext wy;rw[Hk 'o']
  have b:gof (gsOf a) x=[]:=by show(gsOf a).getD x []=[];rw[Ad,Hk (by rw[W3];lia)];rfl
  rw[c,b]
def Dx.step{g0 gs:List (LQ)}{os B S R:LQ}{h:Nat}(l:DI g0 gs os B)(st:Dstep gs B S h R)(d:Dx gs os B):Dx (nxt gs S R) (os++R.map λp=>os.getD p 0) (B++[h]):=by
 have a:=st.sp l.cd;have m:∀x,x∈B++[h]↔x∈h::B:=λx=>by simp[or_comm]
 have e:=Yn2 (n:=Ug gs+Ug R) (g:=gof (nxt gs S R)) (g':=DB.nx (Ug gs) (gof gs) S R) (λx f=>Sx f) m;intro x y f i r q c b o;have c:KS.Rc (DB.lk (nxt gs S R).length (gof (nxt gs S R)) (B++[h])) x y:=c;have b:KS.Rc (DB.lk (nxt gs S R).length (gof (nxt gs S R)) (B++[h])) y x:=b;rw[Yz] at f i c b;rw[e] at c b;rw[m] at r q;rw[Zb2 l f,Zb2 l i] at o;have p:=d _ _ (a.pj_lt f) (a.pj_lt i) (a.nd' f r) (a.nd' i q) (a.down c) (a.down b) o;by_cases k:x<Ug gs<;>by_cases j:y<Ug gs
 .rwa[DB.pj_old k,DB.pj_old j] at p
 .exact(a.apart k 'o' i c b).elim
 .exact(a.apart j 'o' f b c).elim
 .unfold DB.pj at p;rw[nc k,nc j,Ad,Ad,Aa 'o',Aa 'o',Ki,Ki] at p;have:=congrArg R.idxOf p;rw[ND.Yq a.Pn,ND.Yq a.Pn] at this;lia
def Dx.few{gs:List (LQ)}{os B S R:LQ}(g:DI (gsOf e) gs os B)(st:Dstep gs B S h R)(d:Dx gs os B):Ug R<Ug e:=by
 have i:=st.sp g.cd;have a:(h::R).length<=Ug S:=Ay (Hq.mpr (λz=>(st.sub h z).2 rfl,i.Pn)) λx c=>by
  rcases Ak.mp c with rfl|c
  .show st.hS
  .exact(st.sub x c).1
 have k:(S.map λx=>os.getD x 0).Nodup:=by rw[List.nodup_iff_pairwise_ne,List.pairwise_map];show st.sc.nd.imp_of_mem fun{x y} c f j z=>j (d x y (st.sc.lt x c).1 (st.sc.lt y f).1 (st.sc.lt x c).2 (st.sc.lt y f).2 (st.sc.mu x c y f) (st.sc.mu y f x c) z)
 have b:=ND.Zu (Ug e) _ k λo l=>by let(x,c,rfl):=Ar.mp l;have:=g.olt x (st.sc.lt x c).1;rwa[W3] at this
 rw[Ai] at b;rw[Dy] at a;lia
def Iv.begin{a:List Nd}(N:GT.Num (wy a) (Ug a))(le:Ug a<=20\/(Ug a<=40/\Wt (gsOf a) [] 40)):∃m,Iv a m (gsOf a) (Aj (Ug a)) []:=by
 have c:=W3 a;have k:Cd (gsOf a):=λx b y e=>by rw[c] at b |-;show N.cl x b y ((Ny x y).mpr e)
 have f:∀l∈gsOf a,Ug l<=2:=λl i=>by ext i gsOf;let(d,_,rfl):=Ar.mp i;rw[Ht];show d.gs_two
 have j:=DI.begin k f (by rw[c];show N.pos);rw[c] at j;show(_,(0,by have:=Rn.z (g0:=gsOf a);rwa[c] at this),j,OD.OI.begin (by rw[c];show N.pos) λx b=>?_,(_,_,_,(CN.few (n:=(gsOf a).length) (g:=gof (gsOf a))).1,na _),λx y b e _ _ _ _ o=>?_,λw h=>h,λ_=>(rfl,rfl),'o')
 .rw[c] at b;show CN.rc_congr (λx y=>(Ny x y).mp) (RQ.reach N x b)
 .rw[c] at b e;rwa[Ad,Ad,Ho b,Ho e] at o
def Iv.step{a:List Nd}(N:GT.Num (wy a) (Ug a))(le:Ug a<=20\/(Ug a<=40/\Wt (gsOf a) [] 40)){m:Nat}{gs:List (LQ)}{os B S R:LQ}{h:Nat}(i:Iv a m gs os B)(l:Ug gs<=40)(st:Dstep gs B S h R):
  ∃n,n<m/\Iv a n (nxt gs S R) (os++R.map λp=>os.getD p 0) (B++[h]):=by
 let(k,o):=i.rn;have b:=i.di.cd;let(f,x,M,q,y):=i.sm;let(u,d,v,e,t):=Zm5 b i.oi st q;have g:∀w,Wt (gsOf a) [] w->Wt (nxt gs S R) (B++[h]) w:=λw r=>(i.wk w r).step b i.oi st;show(_,'o',(k+1,.s o l st),i.di.step st,Ya6 b i.oi st,(u,d,v,e,na _),i.dx.step i.di st,g,λj=>?_,?_)
 .let(rfl,rfl):=i.od j;have c:OD.Ord (gsOf a).length (gof (gsOf a)):=by rw[W3];show Zl0 Ny j
  have:=st.none b c i.oi;subst this;show(Ya8 _ _,by simp)
 .rcases le with le|⟨_,le⟩
  .have:=i.dx.few i.di st;rw[Yz];lia
  .have:=(g 40 le).many;lia
def Nd.to_wt(f:Nat->Nat)(d:Nd)(h:Ug l=d.gs.length):(d.wt l).to f=d.wt (l.map f):=by
 cases d with
 | sum x a c b t=>match l,h with | [p],_=>rfl
 | test a c b y n=>match l,h with | [p,q],_=>rfl
 | fin=>rfl
 | spin=>rfl
def Nd.to_id(d:Nd)(h:∀t∈d.gs,f t=t):d.to f=d:=by
 cases d with
 | sum x a c b t=>erw[Nd.to];rw[h t (by simp[Nd.gs])]
 | test a c b y n=>erw[Nd.to];rw[h y (by simp[Nd.gs]),h n (by simp[Nd.gs])]
 | fin=>rfl
 | spin=>rfl
structure Mdn(nds new:List Nd)(og:LQ):Prop where
 len:Ug og=Ug new
 few:Ug new<=40
 pos:0<Ug new
 like:∀(k:Nat) d,new[k]?=some d->∃e,nds[og.getD k 0]?=some e/\d=e.wt d.gs.reverse/\d.gs.length=e.gs.length/\d.gs.map (λt=>og.getD t 0)=e.gs
 cl:∀d∈new,∀t∈d.gs,t<Ug new
 z:og.getD 0 0=0
 en:ND.Ends (wy new) 0 (Aj (Ug new)).reverse
 od:GT.Num (wy new) (Ug new)->OD.Ord (Ug new) (wy new)
def wyN{a:List Nd}{gs:List (LQ)}{os B:LQ}(b:DI (gsOf a) gs os B):wy (nodN a gs os)=λk=>(gof gs k).reverse:=by
 funext k;by_cases h:k<Ug gs
 .show b.w h
 .have d:wy (nodN a gs os) k=[]:=by ext wy;rw[Hk (by rw[S8,b.ol];lia)]
  have c:gof gs k=[]:=by change gs.getD k []=[];rw[Ad,Hk 'o'];rfl
  rw[d,c];rfl
def Ej{a:List Nd}(e:ND.Ends (wy a) 0 O.reverse):ND.Ends (wy (gra a O)) 0 (Aj (gra a O).length).reverse:=by
 rw[Z05,Xc];have:=ND.X3 (g':=GT.X3 (wy a) O) e (λi c=>?_)
 .rw[Ht] at this;show this
 .have b:i<Ug O:=by rwa[Go] at c
  erw[Go];ext GT.X3;rw[Aa b]
def Yp{l:LQ}{k x:Nat}(h:l[k]?=some x):l.getD k 0=x:=by rw[Ad,h];rfl
def Iv.fin{a:List Nd}{m:Nat}{gs:List (LQ)}{os B d:LQ}(i:Iv a m gs os B)(le:Ug gs<=40)(al:Al gs B)(U:ND.Ends (gR (Ug gs) [0] (gof gs)) (Ug gs) (d++[Ug gs])):Mdn a (gra (nodN a gs os) d.reverse) (d.reverse.map λx=>os.getD x 0):=by
 have n:=i.di;have w:=n.pos;have V:=Zb7 w n.cd U;let(dn,dc,dz):=V.facts;have dl:∀x∈d,x<Ug gs:=by have W:Wf (Ug gs) [0] (· <Ug gs) (gof gs):=(λp h=>h,'o',λx b=>by rw[Af] at b;rw[b];show w,λp hp=>by rw[(n.o hp).2.2];show Nd.gs_two _,n.cd);show(N9 W U).2.1
 have ew:=wyN n;have v:(d.reverse).reverse=d:=Go d;have u:ND.Ends (wy (nodN a gs os)) 0 (d.reverse).reverse:=by rw[ew,v];show V
 have E:d.reverse.Nodup:=Ww dn;generalize L:d.reverse=O at u E v |-;have D:∀x∈O,x<Ug gs:=λx b=>dl x (by rw[<-L] at b;show Dl.mp b);have R:∀x∈O,∀t∈gof gs x,t∈O:=λx b t f=>by rw[<-L] at b |-;show Dl.mpr (dc x (Dl.mp b) t (Dl.mpr f))
 have Q:O[0]?=some 0:=by rw[<-L];rw[<-List.head?_eq_getElem?,List.head?_reverse];show dz
 have Op:0<Ug O:=(Ab.mp Q).1;have C:∀{k x:Nat},O[k]?=some x->∃e,a[os.getD x 0]?=some e/\(gof gs x).length=e.gs.length/\(gra (nodN a gs os) O)[k]?=some (e.wt ((gof gs x).map λy=>O.idxOf y)):=by
  intro k x c;have b:=D x (Am c);let(o1,o2,T):=n.o b;have M:a[os.getD x 0]?=some (a.getD (os.getD x 0) .fin):=by rw[Ad (l:=a),Aa o2];rfl
  show(_,M,T,?_);rw[Jf c (G7 o1),Nd.to_wt _ _ T]
 have r:(gra (nodN a gs os) O).length=Ug O:=Xc _ _;have g:∀{e:Nd} {l:LQ},Ug l=e.gs.length->(e.wt l).gs=l.reverse:=fun{e l} h=>by have:=congrArg List.reverse (Nd.wt_gs e h);rwa[Go] at this
 have S:∀{k x:Nat},O[k]?=some x->wy (gra (nodN a gs os) O) k=((gof gs x).map λy=>O.idxOf y).reverse:=by intro k x c;let(e,P,N,s):=C c;rw[V4 s,g (by rw[Ai];show N)]
 show(by rw[Ai,r],?_,'o',λk d' G=>?_,λd' G t f=>?_,?_,Ej u,λI k c t f X=>?_)
 .rw[r];have:=ND.Zu _ _ E D;lia
 .have c:k<Ug O:=by rw[<-r];show(Ab.mp G).1
  have b:O[k]?=some O[k]:=Aa c;generalize O[k]=x at b;let(e,P,N,s):=C b;rw[G] at s;have s:=Hb s;have F:((gof gs x).map λy=>O.idxOf y).length=e.gs.length:=by rw[Ai];show N
  show(e,?_,?_,?_,?_)
  .rw[Yp (x:=os.getD x 0) (by rw[Ch,b];rfl)];show P
  .rw[s,g F,Go]
  .rw[s,g F,Ht];show F
  .rw[s,g F,List.map_reverse,Hw];have z:=n.ov x (D x (Am b));have ox:=(n.o (D x (Am b))).2.1;rw[Br ox] at z;have M:a.getD (os.getD x 0) .fin=e:=by rw[Ad,P];rfl
   rw[M] at z;have:=congrArg List.reverse z;rw[Go] at this;rw[<-this];congr 1;show Hu λy q=>?_;have H:=R x (Am b) y q;have J:=Dn H;show(O.map λx=>os.getD x 0).getD (O.idxOf y) 0=os.getD y 0;show Yp (by rw[Ch,Aa J,Ih];rfl)
 .let(k,c):=Ke G;have A:k<Ug O:=by rw[<-r];show(Ab.mp c).1
  have b:O[k]?=some O[k]:=Aa A;have:=S b;rw[V4 c] at this;rw[this,Dl] at f;let(y,q,rfl):=Ar.mp f;rw[r];show Dn (R _ (He A) y q)
 .rw[Yp (x:=os.getD 0 0) (by rw[Ch,Q];rfl)];show n.o0
 .have z:OD.Ov (gra (nodN a gs os) O).length (wy (gra (nodN a gs os) O)) (Ug gs) (gof gs) (λk=>O.getD k 0):=by
   show(I,Ej u,λk c=>?_,λj k K c e=>?_,Yp Q,λk c t f=>?_)
   .rw[r] at c;rw[Yp (Aa c)];show D _ (He c)
   .rw[r] at K c;have e:O.getD j 0=O.getD k 0:=e;rw[Yp (Aa K),Yp (Aa c)] at e;have:=congrArg O.idxOf e;rwa[ND.Yq E K,ND.Yq E c] at this
   .rw[r] at c;have b:O[k]?=some O[k]:=Aa c;rw[S b,Dl] at f;let(y,q,rfl):=Ar.mp f;have H:=R _ (He c) y q;have J:=Dn H;change O.getD (O.idxOf y) 0∈gof gs (O.getD k 0);rw[Yp b,Yp (x:=y) (by rw[Aa J,Ih])];show q
  show OD.orderly z i.oi (λx y b q nx ny Z Y=>al y (Yn.mpr (q,ny)) x Z Y) c f X
def Iv.same{a:List Nd}{m:Nat}{gs:List (LQ)}{os B d:LQ}(N:GT.Num (wy a) (Ug a))(e:ND.Ends (wy a) 0 (Aj (Ug a)).reverse)(i:Iv a m gs os B)(od:OD.Ord (Ug a) (wy a))(p:ND.Ends (gR (Ug gs) [0] (gof gs)) (Ug gs) (d++[Ug gs])):gra (nodN a gs os) d.reverse=a/\(d.reverse.map λx=>os.getD x 0)=Aj (Ug a):=by
 have b:=Zb7 i.di.pos i.di.cd p;rw[<-wyN i.di] at b;let(rfl,rfl):=i.od od;have r:nodN a (gsOf a) (Aj (Ug a))=a:=by
  show Ic λk=>?_;by_cases h:k<Ug a
  .rw[G7 (Ho h),Br h,Ad,Aa h,Ki];have:=Nd.wt_to id a[k];rw[Mx] at this;rw[this,Nd.to_id (f:=id) _ λ_ _=>rfl]
  .rw[Hk (by rw[S8,Kj];lia),Hk 'o']
 rw[r] at b |-;have q:=b.uniq e;rw[q,Go];have c:∀y,y<Ug a->(Aj (Ug a)).idxOf y=y:=λy j=>by have:=ND.Yq (l:=Aj (Ug a)) Iq (i:=y) ↥j;rwa[List.getElem_range] at this
 show(Ic λk=>?_,?_)
 .by_cases h:k<Ug a
  .rw[Jf (Ho h) (Aa h),Aa h];rw[Nd.to_id];intro t o;show c t (N.cl k h t (by rw[V4 (Aa h)];show o))
  .rw[Hk (by rw[Xc,Kj];lia),Hk 'o']
 .refine(Hu (g:=id) λx n=>?_).trans (Mx _);show Yp (Ho (Hj.mp n))
def Rp(g:Nat->LQ)(s y:Nat):Prop:=∃x,KS.Rc g s x/\y∈g x
structure Sk(g:Nat->LQ)(n s:Nat)(F0:LQ)(Ex:Nat->Prop)(F L:LQ):Prop where
 nd:F.Nodup
 lt:∀x∈F,x<n
 ll:∀x∈L,x<n/\(x=s\/x∈F)
 le:Ug L<=Ug F+1
 f0:∀x∈F0,x∈F
 src:∀x∈F,x∈F0\/Rp g s x
 cl:∀x,(x=s\/x∈F)->x∈L\/Ex x\/∀y∈g x,y∈F
section
variable{g:Nat->LQ}{n s p y:Nat}{F0 F L:LQ}
abbrev No:Nat->Prop:=λ_=>False
def Sk.begin(b:s<n)(h0:∀x∈F0,x=s)(c:F0.Nodup):Sk g n s F0 No F0 [s]:=by
 show(c,λx a=>h0 x a ▸ b,λx a=>by rw[Af] at a;show(a ▸ b,.inl a),by simp,λx a=>a,λx a=> .inl a,λx a=> .inl ?_);rcases a with rfl|a
 .simp
 .simp[h0 x a]
def Sk.pop(h:Sk g n s F0 No F (L++[p])):Sk g n s F0 (·=p) F L:=by
 have:=h.le;rw[Ag,Au] at this;show(h.nd,h.lt,λx a=>h.ll x (Ax _ a),'o',h.f0,h.src,λx a=>?_);rcases h.cl x a with z|z|z
 .rcases Ap.mp z with z|z
  .show .inl z
  .show .inr (.inl (Af.mp z))
 .show z.elim
 .show .inr (.inr z)
def Sk.close(h:Sk g n s F0 (·=p) F L)(a:∀y∈g p,y∈F):Sk g n s F0 No F L:=by
 show(h.nd,h.lt,h.ll,h.le,h.f0,h.src,λx b=>?_);rcases h.cl x b with z|z|z
 .show .inl z
 .subst z;show .inr (.inr a)
 .show .inr (.inr z)
def Sk.rc(h0:∀x∈F0,x=s)(h:Sk g n s F0 (·=p) F L)(a:p=s\/p∈F):KS.Rc g s p:=by
 rcases a with rfl|a
 .show .here
 .rcases h.src p a with z|⟨x,r,e⟩
  .rw[h0 p z];show .here
  .show .step r e
def Sk.push(h0:∀x∈F0,x=s)(h:Sk g n s F0 (·=p) F L)(l:p=s\/p∈F)(j:y∈g p)(m:y∉F)(e:y<n):Sk g n s F0 (·=p) (F++[y]) (L++[y]):=by
 have i:=h.rc h0 l;have q:=h.le;show(Dt.mpr (h.nd,by simp,λa o b f=>by rw[Af] at f;subst f;show λz=>m (z ▸ o)),λx c=>?_,λx c=>?_,by erw[Ag,Au];lia,λx c=>Ax _ (h.f0 x c),λx c=>?_,λx c=>?_)
 .rcases Ap.mp c with c|c
  .show h.lt x c
  .rw[Af] at c;show c ▸ e
 .rcases Ap.mp c with c|c
  .let(a,b):=h.ll x c;show(a,b.imp id λz=>Ax _ z)
  .rw[Af] at c;show(c ▸ e,.inr (by simp[c]))
 .rcases Ap.mp c with c|c
  .show h.src x c
  .rw[Af] at c;subst c;show .inr (p,i,j)
 .have d:(x=s\/x∈F)\/x=y:=by
   rcases c with c|c
   .show .inl (.inl c)
   .rcases Ap.mp c with c|c
    .show .inl (.inr c)
    .show .inr (Af.mp c)
  rcases d with d|rfl
  .rcases h.cl x d with z|z|z
   .show .inl (Ax _ z)
   .show .inr (.inl z)
   .show .inr (.inr λw k=>Ax _ (z w k))
  .show .inl 's'
def Sk.fin(h0:∀x∈F0,x=s)(h:Sk g n s F0 No F [])(x:Nat):x∈F↔x∈F0\/Rp g s x:=by
 show(h.src x,λz=>?_);have a:∀x,(x=s\/x∈F)->∀y∈g x,y∈F:=λx c=>by
  rcases h.cl x c with z|z|z
  .cases z
  .show z.elim
  .show z
 rcases z with z|⟨w,r,e⟩
 .show h.f0 x z
 .have:w=s\/w∈F:=by
   clear e;induction r with
   | here=>show .inl rfl
   | step _ d b=>show .inr (a _ b _ d)
  show a w this x e
def Sk.few(h:Sk g n s F0 (·=p) F L):Ug F<=n:=ND.Zu _ _ h.nd h.lt
end
structure Fst(M M':Z2)(F L:LQ):Prop where
 kp:Kp M M'
 hd:M'[Ug M]?=some (.dct (begD F))
 hl:M'[Ug M+1]?=some (.lst (natD L))
def Fst.app{M a:Z2}{F L:LQ}(h:Fst M a F L)(N:Z2):Fst M (a++N) F L:=(h.kp.app N,Z5 h.hd,Z5 h.hl)
def Fst.line{M a:Z2}{F L:LQ}(h:Fst M a F L)(b:LQ):Fst M (a.set (Ug M+1) (.lst (natD b))) F b:=(h.kp.set 'o',c_ne h.hd 'o',Yy h.hl)
def Fst.dict{M a:Z2}{F L:LQ}(h:Fst M a F L)(b:LQ):Fst M (a.set (Ug M) (.dct (begD b))) b L:=(h.kp.set (na _),Yy h.hd,c_ne h.hl 'o')
def Zo2:DSp:=λe M Q _=>∃(a o:Nat) (b:List Nd),e=[.ref a,.int (o:Nat)]/\readL M a=some (b.map Nd.d)/\(Ug b)<=1000/\0<Ug b/\(∀x,x<Ug b->∀y∈wy b x,y<Ug b)/\
 ∀F c,(∀x,x∈F↔GT.Av (wy b) o x)->Kp M c->c[Ug M]?=some (.dct (begD F))->Q (.ref (Ug M)) c
def Cj:DSp:=λe M Q _=>∃(a s:Nat) (b:List Nd),e=[.ref a,.int (s:Nat)]/\readL M a=some (b.map Nd.d)/\(Ug b)<=1000/\s<Ug b/\(∀x,x<Ug b->∀y∈wy b x,y<Ug b)/\
 ∀F c,F.Nodup->(∀x,x∈F↔Rp (wy b) s x)->Kp M c->c[Ug M]?=some (.dct (begD F))->Q (.ref (Ug M)) c
def Ys6{a:Nat}(h:a≠0)(x:Nat):GT.Av g a x↔x∈[0]\/Rp (λk=>(g k).filter (·≠a)) 0 x:=by
 constructor
 .intro j;have f:KS.Rc (λk=>(g k).filter (·≠a)) 0 x/\(x∈[0]\/Rp (λk=>(g k).filter (·≠a)) 0 x):=by
   induction j with
   | zero _=>show(.here,.inl 's')
   | @step u v _ e i b=>have c:v∈(g u).filter (·≠a):=Di.mpr (e,↥i);show(.step b.1 c,.inr (u,b.1,c))
  show f.2
 .have d:∀{x:Nat},KS.Rc (λk=>(g k).filter (·≠a)) 0 x->GT.Av g a x:=by
   intro x r;induction r with
   | here=>show .zero h
   | step _ e b=>have e:=Di.mp e;show .step b e.1 ↥e.2
  rintro(z|⟨w,r,e⟩)
  .rw[Af] at z;subst z;show .zero h
  .have e:=Di.mp e;show .step (d r) e.1 ↥e.2
def Yf6{Γ G}(g19:Γ[19]?=some Wc):Rd K Γ G Zo2 Zk2 Zi6:=by
 rintro ds M Q Z ⟨a,o,nds,rfl,ha,hl,hp,cl,q⟩;delta Zk2 Zi6;rfl';have loop:∀F L (M':Z2) d,((F=[]/\L=[]/\o=0)\/(o≠0/\Sk (λk=>(wy nds k).filter (·≠o)) (Ug nds) 0 [0] No F L))->Fst M M' F L->
   tss (K,Γ,G) noX Qn {nx:=λ_ M=>Q .non M,rt:=Q} [↑a,some (.int (o:Nat)),↑(Ug M),some (.ref (Ug M+1)),d] M':=by
  intro F0 L0 M0 d0 h0 f0;delta Qn;rfl';show(λm σ M'=>∃F L d,m=2 * (Ug nds - (Ug F))+Ug L/\σ=[↑a,some (.int (o:Nat)),↑(Ug M),some (.ref (Ug M+1)),d]/\((F=[]/\L=[]/\o=0)\/(o≠0/\Sk (λk=>(wy nds k).filter (·≠o)) (Ug nds) 0 [0] No F L))/\Fst M M' F L,(_,F0,L0,d0,rfl,rfl,h0,f0),?_);rintro m σ M' ⟨F,L,d,rfl,rfl,h,f⟩;rfl';show(Z0 'd',?_);show Xx (Z4 (cL f.hl)) (cL Zb) ?_;have f1:=f.app [.lst []];generalize M'++[.lst []]=M1 at f1 |-;by_cases hL:L=[]
  .subst hL;rw[nc 's'];delta Gh;rfl';show q F M1 (λx=>?_) f1.kp f1.hd;rcases h with⟨rfl,_,rfl⟩|⟨h1,sk⟩
   .exact(λz=>(by cases z),λz=>(GT.Y00 z).elim)
   .rw[Ys6 h1];show sk.fin 's' x
  .obtain⟨L,p,rfl⟩:∃L' p,L=L'++[p]:=(L.dropLast,L.getLast hL,(Ib hL).symm);rcases h with⟨_,z,_⟩|⟨ho,sk⟩
   .exact(hL z).elim
   rw[ng 's'];delta Gk;rfl';let(pl,ps):=sk.ll p 's';show(Z8 (cL f1.hl),_,.int (p:Nat),cW f1.hl,by rw[Zi];simp,?_);rw[Zi,Kn];have f2:=f1.line L;generalize M1.set (Ug M+1) (.lst (natD L))=M2 at f2 |-;obtain⟨d,hd⟩:∃d,nds[p]?=some d:=(_,Aa pl);have ew:wy nds p=d.gs:=V4 hd;show ix_l (f2.kp.L ha) (Xs hd) ?_;show(d,rfl,?_);show(_,cL Zb,?_);have f3:=f2.app [.lst (natD d.gs)];have l2:=c_lt f2.hl;have hc3:=Zb (M:=M2) (c:= .lst (natD d.gs));generalize M2++[.lst (natD d.gs)]=M3 at f3 hc3 |-;have sk2:=sk.pop;have two:=d.gs_two;show Y5 (λi σ M'=>∃F2 L2 d5,σ=[↑a,some (.int (o:Nat)),↑(Ug M),some (.ref (Ug M+1)),d5]/\Sk (λk=>(wy nds k).filter (·≠o)) (Ug nds) 0 [0] (·=p) F2 L2/\Fst M M' F2 L2/\M'[Ug M2]?=some (.lst (natD d.gs))/\(p=0\/p∈F2)/\(∀y∈d.gs.take i,y≠o->y∈F2)/\2 * (Ug nds - (Ug F2))+Ug L2<=2 * (Ug nds - (Ug F))+Ug L)
    (F,L,_,rfl,sk2,f3,hc3,ps,by simp,na _) ?_ ?_ ?_
   .rintro i σ M' _ ⟨F2,L2,d5,rfl,_,_,h4,_⟩;show cL h4
   .rintro i dx σ M' C hx ⟨F2,L2,d5,rfl,s3,f4,h4,h5,h6,h7⟩ hC;let(y,hy,rfl):=Zp hx;have yd:=Am hy;have yl:y<Ug nds:=cl p pl y (by rw[ew];show yd);have few:=s3.few;have le:=s3.le;have tk:d.gs.take (i+1)=d.gs.take i++[y]:=Yc hy;delta Eg;rfl';by_cases yo:y=o
    .have nyo:¬¬((y:Int)=(o:Int)):=λz=>z 'o';rw[nc nyo]
     try rw[nc nyo]
     show hC _ _ (F2,L2,_,rfl,s3,f4,h4,h5,λz hz ne=>?_,h7);rw[tk] at hz;rcases Ap.mp hz with hz|hz
     .show h6 z hz ne
     .rw[Af] at hz;show(ne (hz.trans yo)).elim
    .rw[ng (by simpa using λz:(y:Int)=(o:Int)=>yo 'o')];show .inr (.inl (begD F2,_,cD f4.hd,rfl,?_));rw[X2];by_cases yF:y∈F2
     .rw[decide_eq_true yF]
      try dsimp only
      rw[nc 'd'];show hC _ _ (F2,L2,_,rfl,s3,f4,h4,h5,λz hz ne=>?_,h7);rw[tk] at hz;rcases Ap.mp hz with hz|hz
      .show h6 z hz ne
      .rw[Af] at hz;show hz ▸ yF
     .rw[mm yF]
      try dsimp only
      rw[ng rfl];have s4:=s3.push 's' h5 (y:=y) (Di.mpr (by rw[ew];show yd,↥yo)) yF yl;have few4:=s4.few;rw[Ag,Au] at few4;show .inr (begD F2,_,cD f4.hd,rfl,by rw[Wb];show Z1 'o',?_);rw[Xi yF];have f5:=f4.dict (F2++[y]);have h8:=c_ne (c:= .dct (begD (F2++[y]))) h4 (show (Ug M)≠Ug M2 by lia);generalize M'.set (Ug M) (.dct (begD (F2++[y])))=M5 at f5 h8 |-;show(Z8 (cL f5.hl),_,cW f5.hl,by rw[Z3];show Z1 'o',?_);rw[<-Zi];show hC _ _ (F2++[y],L2++[y],_,rfl,s4,f5.line _,c_ne h8 'o',h5.imp id λz=>Ax _ z,λz hz ne=>?_,by erw[Ag,Au];lia);rw[tk] at hz;rcases Ap.mp hz with hz|hz
      .show Ax _ (h6 z hz ne)
      .rw[Af] at hz;simp[hz]
   .rintro σ M' ⟨F2,L2,d5,rfl,s3,f4,h4,h5,h6,h7⟩;rw[Z3,Dj] at h6;show(_,?_,F2,L2,d5,rfl,rfl,.inr (ho,s3.close λy hy=>?_),f4)
    .rw[Ag,Au];lia
    .have:=Di.mp hy;rw[ew] at this;show h6 y this.1 ↥this.2
 show(Z0 'd',?_);rfl';have e1:(M++[Cell.dct []]).length=Ug M+1:=by simp
 have f0:Fst M (M++[.dct []]++[.lst []]) [] []:=by show((_,Db _ _ _),Z5 Zb,?_);rw[<-e1];show Zb
 rw[e1];generalize M++[.dct []]++[.lst []]=M1 at f0 |-;by_cases ho:o=0
 .have nyo:¬¬((o:Int)=0):=λz=>z 'o';rw[nc nyo];show loop [] [] M1 none (.inl (rfl,rfl,ho)) f0
 .have nyo:¬((o:Int)=0):=λz=>ho 'o';rw[ng nyo];show .inr (begD [],_,cD f0.hd,rfl,Z0 'd',?_);have e2:=Xi (B:=[]) (y:=0) 's';rw[Mr] at e2;have e2:putD (begD []) (Dw 0) (.bl true)=begD [0]:=e2;rw[e2];have f1:=f0.dict [0];generalize M1.set (Ug M) (.dct (begD [0]))=M2 at f1 |-;show(Z8 (cL f1.hl),_,cW f1.hl,Z0 'd',?_);show loop [0] [0] _ none (.inr (ho,Sk.begin hp 's' 's')) (f1.line [0])
def Zy2{Γ G}(g19:Γ[19]?=some Wc):Rd K Γ G Cj Bh Z03:=by
 rintro P M Q Z ⟨a,s,b,rfl,ha,hl,hs,cl,q⟩;delta Bh Z03;rfl';show(Z0 'd',?_);have e1:(M++[Cell.dct []]).length=Ug M+1:=by simp
 have f0:Fst M (M++[.dct []]++[.lst [.int (s:Nat)]]) [] [s]:=by show((_,Db _ _ _),Z5 Zb,?_);rw[<-e1];show Zb
 rw[e1];generalize M++[.dct []]++[.lst [.int (s:Nat)]]=M0 at f0 |-;have h0:Sk (wy b) (Ug b) s [] No [] [s]:=Sk.begin hs 's' 's';show(λm l j=>∃F L d,m=2 * (Ug b - (Ug F))+Ug L/\l=[↑a,some (.int (s:Nat)),↑(Ug M),some (.ref (Ug M+1)),d]/\Sk (wy b) (Ug b) s [] No F L/\Fst M j F L,(_,[],[s],none,rfl,rfl,h0,f0),?_);rintro m l j ⟨F,L,d,rfl,rfl,h,f⟩;rfl';show(Z0 'd',?_);show Xx (Z4 (cL f.hl)) (cL Zb) ?_;have r:=f.app [.lst []];generalize j++[.lst []]=M1 at r |-;by_cases N:L=[]
 .subst N;rw[nc 's'];delta O0;rfl';show q F M1 h.nd (λx=>?_) r.kp r.hd;have:=h.fin 's' x;simpa using this
 .obtain⟨L,p,rfl⟩:∃L' p,L=L'++[p]:=(L.dropLast,L.getLast N,(Ib N).symm);rw[ng 's'];delta Pv;rfl';let(U,ps):=h.ll p 's';show(Z8 (cL r.hl),_,.int (p:Nat),cW r.hl,by rw[Zi];simp,?_);rw[Zi,Kn];have I:=r.line L;generalize M1.set (Ug M+1) (.lst (natD L))=M2 at I |-;obtain⟨d,V⟩:∃d,b[p]?=some d:=(_,Aa U);have O:wy b p=d.gs:=V4 V;show ix_l (I.kp.L ha) (Xs V) ?_;show(d,rfl,?_);show(_,cL Zb,?_);have f3:=I.app [.lst (natD d.gs)];have l2:=c_lt I.hl;have v:=Zb (M:=M2) (c:= .lst (natD d.gs));generalize M2++[.lst (natD d.gs)]=M3 at f3 v |-;have J:=h.pop;have z0:=d.gs_two;show Y5 (λi l j=>∃e k D,l=[↑a,some (.int (s:Nat)),↑(Ug M),some (.ref (Ug M+1)),D]/\Sk (wy b) (Ug b) s [] (·=p) e k/\Fst M j e k/\j[Ug M2]?=some (.lst (natD d.gs))/\(p=s\/p∈e)/\(∀y∈d.gs.take i,y∈e)/\2 * (Ug b - (Ug e))+Ug k<=2 * (Ug b - (Ug F))+Ug L)
   (F,L,_,rfl,J,f3,v,ps,by simp,na _) ?_ ?_ ?_
  .rintro i l j _ ⟨e,k,D,rfl,_,_,A,_⟩;show cL A
  .rintro i dx l j C hx ⟨e,k,D,rfl,n,o,A,E,w,Y⟩ W;let(y,u,rfl):=Zp hx;have R:=Am u;have yl:y<Ug b:=cl p U y (by rw[O];show R);have y0:=n.few;have le:=n.le;have S:d.gs.take (i+1)=d.gs.take i++[y]:=Yc u;delta Nc;rfl';show .inr (.inl (begD e,_,cD o.hd,rfl,?_));rw[X2];by_cases t:y∈e
   .rw[decide_eq_true t]
    try dsimp only
    rw[nc 'd'];show W _ _ (e,k,_,rfl,n,o,A,E,λz g=>?_,Y);rw[S] at g;rcases Ap.mp g with g|g
    .show w z g
    .rw[Af] at g;show g ▸ t
   .rw[mm t]
    try dsimp only
    rw[ng rfl];have T:=n.push 's' E (y:=y) (by rw[O];show R) t yl;have B:=T.few;rw[Ag,Au] at B;show .inr (begD e,_,cD o.hd,rfl,by rw[Wb];show Z1 'o',?_);rw[Xi t];have H:=o.dict (e++[y]);have X:=c_ne (c:= .dct (begD (e++[y]))) A (show (Ug M)≠Ug M2 by lia);generalize j.set (Ug M) (.dct (begD (e++[y])))=M5 at H X |-;show(Z8 (cL H.hl),_,cW H.hl,by rw[Z3];show Z1 'o',?_);rw[<-Zi];show W _ _ (e++[y],k++[y],_,rfl,T,H.line _,c_ne X 'o',E.imp id λz=>Ax _ z,λz g=>?_,by erw[Ag,Au];lia);rw[S] at g;rcases Ap.mp g with g|g
    .show Ax _ (w z g)
    .rw[Af] at g;simp[g]
  .rintro l j ⟨e,k,D,rfl,n,o,A,E,w,Y⟩;rw[Z3,Dj] at w;show(_,?_,e,k,D,rfl,rfl,n.close λy u=>?_,o)
   .rw[Ag,Au];lia
   .rw[O] at u;show w y u
def Xo:DSp:=λe M Q _=>∃(a:Nat) (b:List Nd),e=[.ref a]/\readL M a=some (b.map Nd.d)/\(Ug b)<=1000/\0<Ug b/\(∀x,x<Ug b->∀y∈wy b x,y<Ug b)/\
 (OD.Ord (Ug b) (wy b)->∀c,Kp M c->Q (.bl true) c)/\(¬OD.Ord (Ug b) (wy b)->∀c,Kp M c->Q (.bl false) c)
def Jz{Γ G}(g19:Γ[19]?=some Wc)(g24:Γ[24]?=some Zo2):Rd K Γ G Xo Tj Tq:=by
 rintro D M Q Z ⟨a,f,rfl,B,hl,hp,cl,W,V⟩;delta Tj Tq;rfl';show Zm B ?_;show('o',by rw[Ai];lia,?_);rw[Ai,Hr];show Z32 (λi n o=>∃E m,n=[↑a,E,m]/\Kp M o/\∀k,k<i->∀t∈wy f k,t<=k->¬GT.Av (wy f) t k) (none,none,rfl,Kp.refl M,λk A=>by lia) ?_ ?_
 .rintro i n o C O ⟨E,m,rfl,v,h⟩ hC
  (delta V2;erw[Int.zero_add])
  obtain⟨d,P⟩:∃d,f[i]?=some d:=(_,Aa O);have T:wy f i=d.gs:=V4 P;rfl';show ix_l (v.L B) (Xs P) ?_;show(d,rfl,?_);show(_,cL Zb,?_);have R:=Zb (M:=o) (c:= .lst (natD d.gs));have p:=v.app [.lst (natD d.gs)];generalize o++[.lst (natD d.gs)]=M1 at R p |-;show Y5 (λj n u=>∃m,n=[↑a,some (.int (i:Nat)),m]/\Kp M u/\u[Ug o]?=some (.lst (natD d.gs))/\∀t∈d.gs.take j,t<=i->¬GT.Av (wy f) t i) (m,rfl,p,R,by simp) ?_ ?_ ?_
  .rintro j n u _ ⟨m,rfl,_,s,_⟩;show cL s
  .rintro j dx n u C2 Y ⟨m,rfl,g,s,r⟩ q;let(y,N,rfl):=Zp Y;have U:=Am N;have I:d.gs.take (j+1)=d.gs.take j++[y]:=Yc N;delta Wl;rfl';by_cases H:y<=i
   .rw[ng 'o'];show(a,y,f,rfl,g.L B,hl,hp,cl,λF M3 S x h3=>?_);show .inr (.inl (begD F,_,cD h3,rfl,?_));rw[X2];by_cases w:i∈F
    .rw[decide_eq_true w];show V (λX=>?_) _ (g.trans x);show X i O y (by rw[T];show U) H ((S i).mp w)
    .rw[mm w];show q _ _ (_,rfl,g.trans x,kp_c x s,λt b l=>?_);rw[I] at b;rcases Ap.mp b with b|b
     .show r t b l
     .rw[Af] at b;subst b;show λz=>w ((S i).mpr z)
   .have J:¬((y:Int)<=(i:Int)):='o';rw[nc J]
    try rw[nc J]
    show q _ _ (_,rfl,g,s,λt b l=>?_);rw[I] at b;rcases Ap.mp b with b|b
    .show r t b l
    .rw[Af] at b;subst b;show(H l).elim
  .rintro n u ⟨m,rfl,g,s,r⟩;rw[Z3,Dj] at r;show hC _ _ (_,_,rfl,g,λk A t b l=>?_);by_cases e:k=i
   .subst e;show r t (by rw[<-T];show b) l
   .show h k 'o' t b l
 .rintro n o ⟨E,m,rfl,v,h⟩;delta Wj;rfl';show W (λk A t b l=>h k A t b l) _ v
def AL(M:Z2):Nat->D->D->Prop
 | 0,x,y=>x=y/\Zv x=true
 | n+1,x,y=>(x=y/\Zv x=true)\/(∃c d,x= .tup c/\y= .tup d/\(Ug c)=Ug d/\(Ug c)<=100000/\∀(i:Nat) a b,c[i]?=some a->d[i]?=some b->AL M n a b)\/
   ∃m k c d,x= .ref m/\y= .ref k/\Zh M m=some c/\Zh M k=some d/\(Ug c)=Ug d/\(Ug c)<=100000/\∀(i:Nat) a b,c[i]?=some a->d[i]?=some b->AL M n a b
def X1(n:Nat):DSp:=λa M Q _=>∃x y,a=[x,y]/\AL M n x y/\Q (.bl true) M
def AL.flat{n:Nat}{x:D}(h:Zv x=true):AL M n x x:=by
 cases n with
 | zero=>show(rfl,h)
 | succ n=>show .inl (rfl,h)
def N0{Γ G}{x:D}(h:Zv x=true)(q:Q (.bl true) M):tss (K,Γ,G) noX Vd {nx:=λ_ M=>Q .non M,rt:=Q} (start0 Ve [x,x]) M:=by
 delta Vd Ve;cases x with
 | non=>rfl';show q
 | bl b=>rfl';delta X9;rfl';simpa using q
 | int i=>rfl';delta X9;rfl';delta Xq;rfl';simpa using q
 | str z=>rfl';delta X9;rfl';delta Xq;rfl';delta V9;rfl';simpa using q
 | _=>left
def Ze8{Γ G}:Rd K Γ G (X1 0) Vd Ve:=by rintro a M Q Z ⟨x,y,rfl,⟨rfl,h⟩,q⟩;show N0 h q
def Fi{Γ G}{n:Nat}(g:Γ[23]?=some (X1 n)){M:Z2}{Q:DK}{x y:D}{xs ys:LD}{d:Option D}(o:Ug xs=Ug ys)(r:Ug xs<=100000)(h:∀(i:Nat) a b,xs[i]?=some a->ys[i]?=some b->AL M n a b)
  (k:∀F:DK,F (.int (Ug xs)) M->bfD K .len [x] M F) (f:∀F:DK,F (.int (Ug ys)) M->bfD K .len [y] M F) (m:∀(i:Nat) a (F:D->Prop),xs[i]?=some a->F a->ixD M x (.int i) F) (l:∀(i:Nat) a (F:D->Prop),ys[i]?=some a->F a->ixD M y (.int i) F) (q:Q (.bl true) M):
  tss (K,Γ,G) noX So {nx:=λ_ M=>Q .non M,rt:=Q} [some x,some y,d] M:=by
 delta So;rfl';show k _ (f _ ?_);rfl';rw[nc (by rw[o];simp)];delta Of;rfl';show f _ ('o','o',?_);rw[Hr];show Z32 (λi c e=>∃d,c=[some x,some y,d]/\e=M) (d,rfl,rfl) ?_ ?_
 .rintro i c e C j ⟨d,rfl,rfl⟩ p
  (delta Ps;erw[Int.zero_add])
  rfl';show m i _ _ (Aa 'o') (l i _ _ (Aa j) ?_);erw[g];show(_,_,rfl,h i _ _ (Aa 'o') (Aa j),?_);rfl';show p _ _ (_,rfl,rfl)
 .rintro c e ⟨d,rfl,rfl⟩;delta Ot;rfl';show q
def Qt{Γ G}{n:Nat}(g:Γ[23]?=some (X1 n)):Rd K Γ G (X1 (n+1)) Vd Ve:=by
 rintro o M Q Z ⟨x,y,rfl,h|⟨r,p,rfl,rfl,d,c,h⟩|⟨m,k,r,p,rfl,rfl,l,j,d,c,h⟩,q⟩
 .let(rfl,h):=h;show N0 h q
 .delta Vd Ve;rfl';delta X9;rfl';delta Xq;rfl';delta V9;rfl';delta Sw;rfl';show Fi g d c h (λF f=>f) (λF f=>f) (λi a F e f=>(a,Vx e,f)) (λi a F e f=>(a,Vx e,f)) q
 .have s:∀{t:Ty} {B:Bool->Prop},isD K M (.ref m) (.ty (Yw t)) B=B (tyLst t):=fun{t B}=>Z01 l;have b:∀{t:Ty} {B:Bool->Prop},isD K M (.ref k) (.ty (Yw t)) B=B (tyLst t):=fun{t B}=>Z01 j;delta Vd Ve;rfl';delta X9;rfl';erw[b];rfl';delta Xq;rfl';erw[b];rfl';delta V9;rfl';erw[b];rfl';delta Sw;rfl';erw[s,b];rfl';show Fi g d c h (λF f=>Zm (Zf l) f) (λF f=>Zm (Zf j) f) (λi a F e f=>ix_l (Zf l) e f) (λi a F e f=>ix_l (Zf j) e f) q
def cutN:Nd->Nat
 | .sum _ _ _ _ _=>5
 | .test _ _ _ _ _=>4
 | .fin=>1
 | .spin=>1
def Ye2:DSp:=λds M Q _=>∃d:Nd,ds=[d.d]/\Q (.int (cutN d:Nat)) M
def Zo7:DSp:=λa M Q _=>∃(e:Nd) (l:LQ) (n:Nat),a=[(e.wt l).d,e.d,.int (n:Nat)]/\(Ug l)=e.gs.length/\(∀x∈l,x<n)/\Q (.bl true) M
def Opd.flat(o:Opd):Zv o.d=true:=by cases o<;>rfl
def AL.tup{M:Z2}{n:Nat}{xs:LD}(h:∀x∈xs,Zv x=true)(l:Ug xs<=100000):AL M (n+1) (.tup xs) (.tup xs):=by show .inr (.inl (xs,xs,rfl,rfl,rfl,l,λi a b d c=>?_));rw[d] at c;cases c;show AL.flat (h a (Am d))
def Nd.al{n:Nat}(d:Nd):AL M (n+1) d.d d.d:=by
 cases d with
 | sum x a e b t=>
  show AL.tup (λz c=>?_) 's';erw[Ak,Hf,or_false] at c;rcases c with rfl|rfl|rfl|rfl|rfl|rfl
  .rfl
  .rfl
  .show a.flat
  .rfl
  .show b.flat
  .rfl
 | test a e b y n=>
  show AL.tup (λz c=>?_) 's';erw[Ak,Hf,or_false] at c;rcases c with rfl|rfl|rfl|rfl|rfl|rfl
  .rfl
  .show a.flat
  .rfl
  .show b.flat
  .rfl
  .rfl
 | fin=>show AL.tup (λz c=>by rw[Af] at c;subst c;rfl) 's'
 | spin=>show AL.tup (λz c=>by rw[Af] at c;subst c;rfl) 's'
def Yl7{Γ G}:Rd K Γ G Ye2 Y26 Y30:=by
 rintro c M Q Z ⟨d,rfl,q⟩;delta Y26 Y30;cases d with
 | sum x a e b t=>erw[Nd.d];rfl';show q
 | test a e b y n=>erw[Nd.d];rfl';delta Q7;rfl';show q
 | fin=>erw[Nd.d];rfl';delta Q7;rfl';delta Jm;rfl';show q
 | spin=>erw[Nd.d];rfl';delta Q7;rfl';delta Jm;rfl';show q
def Q3{Γ G}{c n:Nat}(b:¬(HT.sIx (Ug xs) 0 (some (c:Int))=0/\HT.sIx (Ug xs) (Ug xs) none=Ug xs))(j:U.cutD xs (some (c:Int)) none=natD l)(h:∀t∈l,t<n)(q:Q (.bl true) M):
  tss (K,Γ,G) noX V3 {nx:=λ_ M=>Q .non M,rt:=Q} [some (.tup xs),some y,some (.int (n:Nat)),some (.int (c:Nat)),f] M:=by
 delta V3;rfl';show(b,?_);rw[j];show Y5 (λi a e=>∃d,a=[some (.tup xs),some y,some (.int (n:Nat)),some (.int (c:Nat)),d]/\e=M) (f,rfl,rfl) (λ_ _ _ _ _=>trivial) ?_ ?_
 .rintro i o a e C b ⟨d,rfl,rfl⟩ k;let(t,g,rfl):=Zp b;have m:=h t (Am g);delta Rh;rfl';rw[ng 'o',nc 'o'];show Za ?_;show k _ _ (_,rfl,rfl)
 .rintro a e ⟨d,rfl,rfl⟩;delta Rm;rfl';show q
def Z56{Γ G}(g23:Γ[23]?=some (X1 3))(g26:Γ[26]?=some Ye2):Rd K Γ G Zo7 Oj Ng:=by
 rintro i M Q Z ⟨e,l,n,rfl,g,j,q⟩;delta Oj Ng;cases e with
 | sum x a f b t=>
  let(p,rfl):=List.length_eq_one_iff.mp g;erw[Nd.d,Nd.wt];rfl';delta Yx;rfl';show(.sum x a f b t,rfl,?_);rfl';show(_,_,rfl,AL.tup (xs:=[.str "sum",.str x,a.d,.str f,b.d]) (λz c=>?_) 's',?_)
  .simp only[Ak,Hf,or_false] at c;rcases c with rfl|rfl|rfl|rfl|rfl
   .rfl
   .rfl
   .show a.flat
   .rfl
   .show b.flat
  show Za ?_;show Q3 (l:=[p]) (by change ¬(HT.sIx 6 0 (some ((5:Nat):Int))=0/\HT.sIx 6 6 none=6);decide) rfl ↥j q
 | test a f b y m=>
  obtain⟨p,r,rfl⟩:∃p r,l=[p,r]:=by
   match l,g with
   | [p,r],_=>show(p,r,rfl)
  erw[Nd.d,Nd.wt];rfl';delta Yx;rfl';show(.test a f b y m,rfl,?_);rfl';show(_,_,rfl,AL.tup (xs:=[.str "test",a.d,.str f,b.d]) (λz c=>?_) 's',?_)
  .simp only[Ak,Hf,or_false] at c;rcases c with rfl|rfl|rfl|rfl
   .rfl
   .show a.flat
   .rfl
   .show b.flat
  show Za ?_;show Q3 (l:=[p,r]) (by change ¬(HT.sIx 6 0 (some ((4:Nat):Int))=0/\HT.sIx 6 6 none=6);decide) rfl ↥j q
 | fin=>
  have h:=Du.mp g;subst h;erw[Nd.d,Nd.wt];rfl';delta Yx;rfl';show(.fin,rfl,?_);rfl';show(_,_,rfl,AL.tup (xs:=[.str "end"]) (λz c=>?_) 's',?_)
  .rw[Af] at c;subst c;rfl
  show Za ?_;show Q3 (l:=[]) (by change ¬(HT.sIx 1 0 (some ((1:Nat):Int))=0/\HT.sIx 1 1 none=1);decide) rfl 's' q
 | spin=>
  have h:=Du.mp g;subst h;erw[Nd.d,Nd.wt];rfl';delta Yx;rfl';show(.spin,rfl,?_);rfl';show(_,_,rfl,AL.tup (xs:=[.str "spin"]) (λz c=>?_) 's',?_)
  .rw[Af] at c;subst c;rfl
  show Za ?_;show Q3 (l:=[]) (by change ¬(HT.sIx 1 0 (some ((1:Nat):Int))=0/\HT.sIx 1 1 none=1);decide) rfl 's' q
def smv(v:Str)(st k:Nat):List Nd:=(Aj k).map λc=>Nd.sum v (.nm v) "+" (.no ((c:Nat):Int)) (st+c+1)
def B9(v:Str)(st k:Nat):smv v st (k+1)=smv v st k++[Nd.sum v (.nm v) "+" (.no ((k:Nat):Int)) (st+k+1)]:=by ext smv;rw[Kl,As];rfl
def Y8(v:Str)(st k:Nat):(smv v st k).length=k:=by ext smv;simp
def Y34{st k c:Nat}(h:c<k):(smv v st k)[c]?=some (Nd.sum v (.nm v) "+" (.no ((c:Nat):Int)) (st+c+1)):=by ext smv;rw[Ch,Ho h];rfl
def rgn(a:Int)(k b out:Nat):Nd:=if a % 3=0 then .sum "x" (.nm "x") "+" (.no ((k:Nat):Int)) b else if a % 3=1 then .test (.nm "x") "<" (.no (a / 3 % 50)) b out else .test (.nm "y") "=" (.no (a / 3 % 50)) out b
def Yi1(b:Int)(k a out:Nat):a∈(rgn b k a out).gs:=by
 ext rgn;split
 .simp[Nd.gs]
 .split<;>simp[Nd.gs]
def Y42(c:Int)(k b out:Nat):∀y∈(rgn c k b out).gs,y=b\/y=out:=by
 intro y a;ext a rgn;split at a
 .show .inl (by simpa[Nd.gs] using a)
 .split at a
  .have:y=out\/y=b:=by simpa[Nd.gs] using a
   show this.symm
  .simpa[Nd.gs] using a
def Zo5(a:PyData.canLay0 (.str v)=true)(i:Int)(n:Nat):(Nd.sum v (.nm v) "+" (.no i) n).ok=true:=by
 show(PyData.canLay0 (.str v)&&PyData.canLay0 (.str v)&&PyData.canLay0 (.str "+")&&true)=true;rw[a]
 decide+kernel
def C6{v a:Str}(b:PyData.canLay0 (.str v)=true)(c:PyData.canLay0 (.str a)=true)(i:Int)(y n:Nat):(Nd.test (.nm v) a (.no i) y n).ok=true:=by show(PyData.canLay0 (.str v)&&PyData.canLay0 (.str a)&&true)=true;rw[b,c];rfl
def Ym0(b:Int)(k a out:Nat):(rgn b k a out).ok=true:=by
 ext rgn;split
 .show Zo5 'k' _ _
 .split
  .show C6 'k' 'k' _ _ _
  .show C6 'k' 'k' _ _ _
def rgm(c:List Int)(b a k:Nat):Nd:=rgn (mix (Xr c (1+k)) ((k:Int)+92)) k (b+(k+1) % a) (b+a)
def rgl(c:List Int)(b a k:Nat):List Nd:=(Aj k).map (rgm c b a)
def Zq5(c:List Int)(b a k:Nat):rgl c b a (k+1)=rgl c b a k++[rgm c b a k]:=by ext rgl;rw[Kl,As];rfl
def Xz(c:List Int)(b a k:Nat):(rgl c b a k).length=k:=by ext rgl;simp
def Yl5(d:List Int){b a k c:Nat}(h:c<k):(rgl d b a k)[c]?=some (rgm d b a c):=by ext rgl;rw[Ch,Ho h];rfl
def Ys5(a:Int)(y n:Nat):Nd:= .test (.nm "x") "<" (.no (a % 9)) y n
def kraw(c:List Int)(t:Nd)(b a be:Nat):List Nd:=smv "x" 0 b++[t]++rgl c (b+1) a a++smv "y" (b+1+a) be++[Nd.fin]
def Bb(c:List Int)(t:Nd)(b a be:Nat):(kraw c t b a be).length=b+a+be+2:=by ext kraw;erw[Ag,Y8,Xz,Au];lia
section
variable{ns:List Int}{t:Nd}{ah sz be:Nat}
def kw0(h:c<ah):wy (kraw ns t ah sz be) c=[c+1]:=by
 have:(kraw ns t ah sz be)[c]?=some (Nd.sum "x" (.nm "x") "+" (.no ((c:Nat):Int)) (0+c+1)):=by ext kraw;rw[Db,Db,Db,De (by rw[Y8];show h)];show Y34 h
 rw[V4 this];simp[Nd.gs]
def kw1:wy (kraw ns t ah sz be) ah=t.gs:=by
 have:(kraw ns t ah sz be)[ah]?=some t:=by ext kraw;rw[Db,Db,Db,Dg (by rw[Y8];show na _),Y8,Nat.sub_self];rfl
 rw[V4 this]
def kw2(h:c<sz):wy (kraw ns t ah sz be) (ah+1+c)=(rgm ns (ah+1) sz c).gs:=by
 have:(kraw ns t ah sz be)[ah+1+c]?=some (rgm ns (ah+1) sz c):=by ext kraw;rw[Db,Db,Dg (by rw[Ag,Y8,Au];lia),Ag,Y8,Au,show ah+1+c - (ah+1)=c by lia,De (by rw[Xz];show h)];show Yl5 ns h
 rw[V4 this]
def kw3(h:c<be):wy (kraw ns t ah sz be) (ah+1+sz+c)=[ah+1+sz+c+1]:=by
 have:(kraw ns t ah sz be)[ah+1+sz+c]?=some (Nd.sum "y" (.nm "y") "+" (.no ((c:Nat):Int)) (ah+1+sz+c+1)):=by ext kraw;rw[Db,Dg (by rw[Ag,Ag,Y8,Xz,Au];lia),Ag,Ag,Y8,Xz,Au,show ah+1+sz+c - (ah+1+sz)=c by lia,De (by rw[Y8];show h)];show Y34 h
 rw[V4 this];rfl
def kw4{x:Nat}(h:ah+1+sz+be<=x):wy (kraw ns t ah sz be) x=[]:=by
 ext wy;by_cases e:x=ah+1+sz+be
 .have:(kraw ns t ah sz be)[x]?=some Nd.fin:=by ext kraw;rw[Dg (by erw[Ag,Y8,Xz,Au];lia)];erw[Ag,Y8,Xz,Au];rw[show x - (ah+1+sz+be)=0 by lia];rfl
  rw[this];rfl
 .rw[Hk (by rw[Bb];lia)]
def c5(ah sz be x:Nat):x<ah\/x=ah\/(∃c,c<sz/\x=ah+1+c)\/(∃c,c<be/\x=ah+1+sz+c)\/ah+1+sz+be<=x:=by
 by_cases b:x<ah
 .show .inl b
 .by_cases a:x=ah
  .show .inr (.inl a)
  .by_cases e:x<ah+1+sz
   .show .inr (.inr (.inl (x - (ah+1),'o','o')))
   .by_cases d:x<ah+1+sz+be
    .show .inr (.inr (.inr (.inl (x - (ah+1+sz),'o','o'))))
    .show .inr (.inr (.inr (.inr 'o')))
def Yl6(j:2<=sz)(i:1<=b)(h:b<sz)(f:∀y,y∈t.gs↔y=ah+1\/y=ah+1+b):RQ.Ring (wy (kraw ns t ah sz be)) ah sz b where
 two:=j
 nx:=λx d=>by rw[kw0 d];simp
 fw:=λx d y a=>by rw[kw0 d] at a;simp at a;lia
 d1:=by rw[kw1];show(f _).mpr (.inl rfl)
 d2:=by rw[kw1];show(f _).mpr (.inr rfl)
 e1:=i
 e2:=h
 da:=λy a=>by rw[kw1] at a;rcases(f y).mp a with rfl|rfl<;>lia
 rg:=λk g=>by rw[kw2 g];show Yi1 _ _ _ _
 ro:=λk g y a=>by rw[kw2 g] at a;show Y42 _ _ _ _ y a
 bh:=λx d y a=>by
  rcases c5 ah sz be x with e|rfl|⟨c,hc,rfl⟩|⟨c,hc,rfl⟩|e
  .lia
  .lia
  .lia
  .rw[kw3 hc] at a;simp at a;lia
  .rw[kw4 e] at a;simp at a
def k_hi(g:2<=sz)(f:b<sz)(d:∀y,y∈t.gs↔y=ah+1\/y=ah+1+b):∀x,∀y∈wy (kraw ns t ah sz be) x,y<ah+sz+be+2:=by
 intro x y a;rcases c5 ah sz be x with e|rfl|⟨c,hc,rfl⟩|⟨c,hc,rfl⟩|e
 .rw[kw0 e] at a;simp at a;lia
 .rw[kw1] at a;rcases(d y).mp a with rfl|rfl<;>lia
 .rw[kw2 hc] at a;have:=Nat.mod_lt (c+1) (show 0<sz by lia);rcases Y42 _ _ _ _ y a with z|z<;>lia
 .rw[kw3 hc] at a;simp at a;lia
 .rw[kw4 e] at a;simp at a
def k_ok(h:t.ok=true):∀d∈kraw ns t ah sz be,d.ok=true:=by
 intro d a;ext a kraw;erw[Ap,Af] at a;rcases a with((((a|a)|a)|a)|a)
 .unfold smv at a;let(c,_,rfl):=Ar.mp a;show Zo5 'k' _ _
 .rw[a];show h
 .unfold rgl at a;let(c,_,rfl):=Ar.mp a;show Ym0 _ _ _ _
 .unfold smv at a;let(c,_,rfl):=Ar.mp a;show Zo5 'k' _ _
 .rw[a];rfl
end
def Rgd(gr:List Nd):Prop:=∃(h:Nat->LQ) (a s e N:Nat) (O:LQ),RQ.Ring h a s e/\GT.Ord h N O/\wy gr=GT.X3 h O/\(Ug gr)=Ug O/\(Ug O)+s<=41
def Nm:DSp:=λe M Q _=>∃(b:Int) (k c a:Nat),e=[.int b,.int (k:Nat),.int (c:Nat),.int (a:Nat)]/\0<=b/\Q (rgn b k c a).d M
def Q6:DSp:=λf M Q _=>∃(a:Nat) (e:List Int),f=[.ref a]/\readL M a=some (e.map .int)/\
 ∀(b:List Nd) c r,Rgd b->GT.Num (wy b) (Ug b)->ND.Ends (wy b) 0 (Aj (Ug b)).reverse->(Ug b)<=40->(∀d∈b,d.ok=true)->Kp M c->Zh c r=some (b.map Nd.d)->(Ug M)<=r->Q (.ref r) c
def Gr{Γ G}:Rd K Γ G Nm Ru Rf:=by
 rintro a M Q Z ⟨b,k,g,e,rfl,f,q⟩;ext q rgn;delta Ru Rf;rfl';rw[qm 'd'];by_cases d:b % 3=0
 .rw[ng d] at q |-;rfl';show(Z0 'd',q)
 .rw[nc d] at q |-;delta Vl;rfl';rw[qm 'd'];by_cases c:b % 3=1
  .rw[ng c] at q |-;rfl';show(Zz 'd' 'd',Z0 'd',?_);rw[qm 'd',qd 'd'];show q
  .rw[nc c] at q |-;delta Vj;rfl';show(Zz 'd' 'd',Z0 'd',?_);rw[qm 'd',qd 'd'];show q
def rn_2{Γ G}{l k j i h g f e b a m:Option D}
  (q:∀d:Nat,2<=d->d<=19->tss (K,Γ,G) noX B R [l,some (.int (c:Nat)),some (.int (d:Nat)),k,j,i,h,g,f,e,b,a] M):
  tss (K,Γ,G) noX (.cons (.set [2] (.bin .add (.int 2) (.bin .mod (.var 1) (.int 18)))) B) R [l,some (.int (c:Nat)),m,k,j,i,h,g,f,e,b,a] M:=by
 walk_at "es";rw[qm 'd',show(2:Int)+(c:Int) % 18=((2+c % 18:Nat):Int) by lia];show q _ 'o' 'o'
def rn_3{Γ G}{l k m j i h g f e c b:Option D}{a:Nat}(o:2<=a)(n:a<=19)
  (q:∀d:Nat,d+2 * a=39->tss (K,Γ,G) noX B R [l,k,some (.int (a:Nat)),some (.int (d:Nat)),j,i,h,g,f,e,c,b] M):
  tss (K,Γ,G) noX (.cons (.set [3] (.bin .sub (.int 39) (.bin .mul (.int 2) (.var 2)))) B) R [l,k,some (.int (a:Nat)),m,j,i,h,g,f,e,c,b] M:=by
 walk_at "es";rw[show(39:Int) - 2 * (a:Int)=((39 - 2 * a:Nat):Int) by lia];show(mulL 'd' 'd',q _ 'o')
def rn_4{Γ G}{l k o j i g f e c b:Option D}{d a:Nat}
  (q:∀m:Nat,m<=a->tss (K,Γ,G) noX B R [l,some (.int (d:Nat)),k,some (.int (a:Nat)),some (.int (m:Nat)),j,i,g,f,e,c,b] M):
  tss (K,Γ,G) noX (.cons (.set [4] (.bin .mod (.bin .fdiv (.var 1) (.int 18)) (.bin .add (.var 3) (.int 1)))) B) R [l,some (.int (d:Nat)),k,some (.int (a:Nat)),o,j,i,g,f,e,c,b] M:=by
 walk_at "es";have h:(0:Int)< (a:Nat)+1:='o';rw[qm h,qd 'd'];have n:=Hy ((d:Int) / 18) (show((a:Nat):Int)+1≠0 by lia);have p:=Ii ((d:Int) / 18) h;show(Zz 'd' 'd','o',?_);rw[<-Ks n];show q _ 'o'
def rn_5{Γ G}{l k j m i g f e d c:Option D}{a b:Nat}(h:b<=a)
  (q:∀be:Nat,b+be=a->tss (K,Γ,G) noX B R [l,k,j,some (.int (a:Nat)),some (.int (b:Nat)),some (.int (be:Nat)),i,g,f,e,d,c] M):
  tss (K,Γ,G) noX (.cons (.set [5] (.bin .sub (.var 3) (.var 4))) B) R [l,k,j,some (.int (a:Nat)),some (.int (b:Nat)),m,i,g,f,e,d,c] M:=by
 walk_at "es";rw[show(a:Int) - (b:Int)=((a - b:Nat):Int) by lia];show q _ 'o'
def rn_6{Γ G}{m l k j i g f e c a:Option D}{d be:Nat}
  (q:∀b:Nat,b<=be->tss (K,Γ,G) noX B R [m,some (.int (d:Nat)),l,k,j,some (.int (b:Nat)),i,g,f,e,c,a] M):
  tss (K,Γ,G) noX (.cons (.ite (.cmp .eq (.bin .mod (.bin .fdiv (.var 1) (.int 720)) (.int 2)) (.int 0)) (.cons (.set [5] (.bin .mod (.bin .fdiv (.var 1) (.int 1440)) (.bin .add (.var 5) (.int 1)))) .nil) .nil) B) R [m,some (.int (d:Nat)),l,k,j,some (.int (be:Nat)),i,g,f,e,c,a] M:=by
 walk_at "es";have h:(0:Int)< (be:Nat)+1:='o';have n:=Hy ((d:Int) / 1440) (show((be:Nat):Int)+1≠0 by lia);have o:=Ii ((d:Int) / 1440) h;show(Zz 'd' 'd',?_);split
 .rw[qm h,qd 'd'];show(Zz 'd' 'd','o',?_);rw[<-Ks n];show q _ 'o'
 .show q _ (na _)
def rn_7{Γ G}{m l k j n i g f d c:Option D}{b a:Nat}(hz:2<=a)
  (q:∀e:Nat,1<=e->e<a->tss (K,Γ,G) noX B R [m,some (.int (b:Nat)),some (.int (a:Nat)),l,k,j,some (.int (e:Nat)),i,g,f,d,c] M):
  tss (K,Γ,G) noX (.cons (.set [6] (.bin .add (.int 1) (.bin .mod (.bin .fdiv (.var 1) (.int 72000)) (.bin .sub (.var 2) (.int 1))))) B) R [m,some (.int (b:Nat)),some (.int (a:Nat)),l,k,j,n,i,g,f,d,c] M:=by
 walk_at "es";have h:(0:Int)< (a:Nat) - 1:='o';have p:=Hy ((b:Int) / 72000) (show((a:Nat):Int) - 1≠0 by lia);have o:=Ii ((b:Int) / 72000) h;rw[qm h,qd 'd'];show(Zz 'd' 'd','o',?_);rw[show(1:Int)+(b:Int) / 72000 % ((a:Nat) - 1)=((1+((b:Int) / 72000 % ((a:Nat) - 1)).toNat:Nat):Int) by lia];show q _ 'o' 'o'
def Zu5{Γ G}(g2:Γ[21]?=some Sh){a p c b be l:Nat}{k d3 d6 d9 A z:Option D}(J:2<=c)(hn:b+be+2 * c<=39)(h3:1<=l)(I:l<c)(F:∀y,y∈t.gs↔y=b+1\/y=b+1+l)(R:t.ok=true)(U:Kp h M)(H:M[p]?=some (.lst ((smv "x" 0 b++[t]++rgl e (b+1) c c).map Nd.d)))
  (q:∀(gr:List Nd) g r,Rgd gr->GT.Num (wy gr) (Ug gr)->ND.Ends (wy gr) 0 (Aj (Ug gr)).reverse->(Ug gr)<=40->(∀d∈gr,d.ok=true)->Kp h g->Zh g r=some (gr.map Nd.d)->(Ug h)<=r->Q (.ref r) g):
  tss (K,Γ,G) noX Xb {nx:=λ_ M=>Q .non M,rt:=Q} [↑a,k,some (.int (c:Nat)),d3,some (.int (b:Nat)),some (.int (be:Nat)),d6,some (.int ((b:Int)+1)),↑p,d9,A,z] M:=by
 have lp:=c_lt H;delta Xb;rfl';show('o','o',?_);rw[Hr];erw[capD,Az,Dh,Hg,Dz,Dv,Dr,Hh];show Zj (λi m g=>∃k,m=[k,some (.int ((b:Int)+1)),some (.int (c:Nat))]/\g=M++[.lst ((smv "y" (b+1+c) i).map Nd.d)]) (none,rfl,rfl) (λ_ _ _ _ _=>trivial) ?_ ?_
 .rintro i dx m g C X ⟨k,rfl,rfl⟩ hC;let(hi,rfl):=X7 X;rfl';show(Z0 'd',_,cW Zb,by rw[Ai,Y8];show Z1 'o',?_);show hC _ _ (_,rfl,?_);rw[Df _ _ (na _),Nat.sub_self,B9,As];rfl
 rintro m g ⟨k,rfl,rfl⟩;rw[Xf];show(_,_,cW (Z5 H),cW Zb,Z0 (by erw[Ai,Ag,Y8,Xz,Au];lia),?_);rw[<-As];have E:Kp h (M++[.lst ((smv "y" (b+1+c) be).map Nd.d)]):=U.app _;generalize M++[.lst ((smv "y" (b+1+c) be).map Nd.d)]=M1 at E |-;have B:Kp h (M1++[.lst ((smv "x" 0 b++[t]++rgl e (b+1) c c++smv "y" (b+1+c) be).map Nd.d)]):=E.app _;have f:(M1++[.lst ((smv "x" 0 b++[t]++rgl e (b+1) c c++smv "y" (b+1+c) be).map Nd.d)]:Z2)[Ug M1]?=some (.lst ((smv "x" 0 b++[t]++rgl e (b+1) c c++smv "y" (b+1+c) be).map Nd.d)):=Zb;generalize M1++[.lst ((smv "x" 0 b++[t]++rgl e (b+1) c c++smv "y" (b+1+c) be).map Nd.d)]=M2 at B f |-;generalize (Ug M1)=p2 at f |-;show Za ?_;rfl';show(Z0 'd',Z0 'd',_,_,cW (Z5 f),cW Zb,Z0 (by erw[Ai,Ag,Y8,Xz,Au];lia),?_);have e7:(smv "x" 0 b++[t]++rgl e (b+1) c c++smv "y" (b+1+c) be).map Nd.d++[D.tup [.str "end"]]=(kraw e t b c be).map Nd.d:=by ext kraw;rw[As (l₂:=[Nd.fin])];rfl
 rw[e7];have u:=Bb e t b c be;have v:Kp h (M2++[.lst [.tup [.str "end"]]]):=B.app _;generalize M2++[.lst [.tup [.str "end"]]]=M7 at v |-;show(_,kraw e t b c be,rfl,cL Zb,'o','o',λd Z y W=>?_,k_ok R,λgr O M8 P o w s en le n V h8 T=>q gr M8 P ?_ s en ?_ n ((v.app _).trans V) h8 ?_)
 .let(j,Y):=Ke Z;rw[u];show k_hi J I F j y (by rw[V4 Y];show W)
 .have L:gr=gra (kraw e t b c be) O:=w;have S:Ug gr=Ug O:=by rw[L,Xc]
  show(_,b,c,l,_,O,Yl6 J h3 I F,o,by rw[L,Z05],S,?_);lia
 .lia
 .let(N,rfl):=v;erw[Ag] at T;lia
def Zw3{Γ G}(g0:Γ[14]?=some Ou)(g1:Γ[15]?=some Vt)(g2:Γ[21]?=some Sh)(g3:Γ[34]?=some Nm){M M0:Z2}{Q:DK}{a p sz ah be se:Nat}{ns:List Int}{t:Nd}{d1 d3 d6 d9 d10 d11:Option D}(h2:2<=sz)(hn:ah+be+2 * sz<=39)(h3:1<=se)(h4:se<sz)(ht:∀y,y∈t.gs↔y=ah+1\/y=ah+1+se)(ok:t.ok=true)(kp:Kp M0 M)(ha:readL M0 a=some (ns.map .int))(lp:Ug M0<=p)(hp:M[p]?=some (.lst ((smv "x" 0 ah++[t]).map Nd.d)))
  (q:∀(gr:List Nd) M' r,Rgd gr->GT.Num (wy gr) (Ug gr)->ND.Ends (wy gr) 0 (Aj (Ug gr)).reverse->(Ug gr)<=40->(∀d∈gr,d.ok=true)->Kp M0 M'->Zh M' r=some (gr.map Nd.d)->(Ug M0)<=r->Q (.ref r) M'):
  tss (K,Γ,G) noX (.cons (.for_ [10] (.rng1 (.var 2)) W2) Xb) {nx:=λ_ M=>Q .non M,rt:=Q} [↑a,d1,some (.int (sz:Nat)),d3,some (.int (ah:Nat)),some (.int (be:Nat)),d6,some (.int ((ah:Int)+1)),↑p,d9,d10,d11] M:=by
 rfl';show('o','o',?_);rw[Hr];show Y5 (λi σ M'=>∃d10 d11,σ=[↑a,d1,some (.int (sz:Nat)),d3,some (.int (ah:Nat)),some (.int (be:Nat)),d6,some (.int ((ah:Int)+1)),↑p,d9,d10,d11]/\Kp M0 M'/\M'[p]?=some (.lst ((smv "x" 0 ah++[t]++rgl ns (ah+1) sz i).map Nd.d))) (d10,d11,rfl,kp,?_) (λ_ _ _ _ _=>trivial) ?_ ?_
 .rw[hp];ext rgl;rw[List.range_zero,Dh,Hd]
 .rintro i dx σ M' C hx ⟨d10,d11,rfl,k1,h1⟩ hC;let(hi,rfl):=X7 hx;delta W2;rfl';show(a,ns,1+i,by rw[Kg];rfl,k1.L ha,?_);show(Xr ns (1+i),(i:Int)+92,rfl,'o','o',?_);have hm:=E5 (Xr ns (1+i)) ((i:Int)+92);have er:rgm ns (ah+1) sz i=rgn (mix (Xr ns (1+i)) ((i:Int)+92)) i (ah+1+(i+1) % sz) (ah+1+sz):=rfl;generalize mix (Xr ns (1+i)) ((i:Int)+92)=nu at hm er |-;show(Z8 (cL h1),'o',?_);rw[qm (show(0:Int)< (sz:Nat) by lia)]
  try erw[g3]
  show(nu,i,ah+1+(i+1) % sz,ah+1+sz,by rw[Kg,Kg,Kg,Int.natCast_emod,Kg];rfl,hm,?_);show(_,cW h1,by erw[Ai,Ag,Y8,Xz,Au];show Z1 'o',?_);show hC _ _ (_,_,rfl,k1.set lp,?_);rw[Yy h1,Zq5,<-er,<-Db,As (l₂:=[rgm ns (ah+1) sz i])];rfl
 .rintro σ M' ⟨d10,d11,rfl,k1,h1⟩;rw[Xf] at h1;show Zu5 g2 h2 hn h3 h4 ht ok k1 h1 q
def Zd8{Γ G}(g0:Γ[14]?=some Ou)(g1:Γ[15]?=some Vt)(g2:Γ[21]?=some Sh)(g3:Γ[34]?=some Nm):Rd K Γ G Q6 Fh E2:=by
 rintro A M Q Z ⟨a,u,rfl,J,q⟩;delta Fh E2;generalize z:(Ss.cons (S.set [2] _) _)=B;rfl';show(a,u,0,rfl,J,?_);show(Xr u 0,91,rfl,'o','o',?_);obtain⟨f,k⟩:∃f:Nat,mix (Xr u 0) 91=(f:Nat):=(_,(Ks (E5 _ _)).symm);rw[k];clear k;subst z;show rn_2 λP r O=>rn_3 r O λX hf=>rn_4 λc w=>rn_5 w λbe V=>rn_6 λb hb=>?_;delta Qp;show rn_7 r λg T R=>?_;rfl';show('o','o',?_);rw[Hr];erw[capD,Az,Dh,Hg,Dz,Dv,Dr,Hh];show Zj (λi p F=>∃E,p=[E]/\F=M++[.lst ((smv "x" 0 i).map Nd.d)]) (none,rfl,rfl) (λ_ _ _ _ _=>trivial) ?_ ?_
 .rintro i dx p F C U ⟨E,rfl,rfl⟩ W;let(Y,rfl):=X7 U;rfl';show(Z0 'd',_,cW Zb,by rw[Ai,Y8];show Z1 'o',?_);show W _ _ (_,rfl,?_);rw[Df _ _ (na _),Nat.sub_self,B9,As,Nat.zero_add];rfl
 rintro p F ⟨E,rfl,rfl⟩;rw[Xf];have I:Kp M (M++[.lst ((smv "x" 0 c).map Nd.d)]):=Kp.new _ _;have N:(M++[.lst ((smv "x" 0 c).map Nd.d)]:Z2)[Ug M]?=some (.lst ((smv "x" 0 c).map Nd.d)):=Zb;generalize M++[.lst ((smv "x" 0 c).map Nd.d)]=M1 at I N |-;show Za ?_;rfl';show(Z0 'd',Z0 'd',Z0 'd',Zz 'd' 'd',?_);rw[qm 'd',qd 'd'];have l:∀(y n:Nat) (e:Z2),(∀x,x∈[n,y]↔x=c+1\/x=c+1+g)->Kp M e->e[Ug M]?=some (.lst ((smv "x" 0 c).map Nd.d))->tss (K,Γ,G) noX (.cons (.expr (.mt .append (.var 8) (.cons (.bin .add (.tup (.cons (.str "test") (.cons (.str "x") (.cons (.str "<") (.cons (.bin .mod (.var 1) (.int 9)) .nil))))) (.var 9)) .nil))) (.cons (.for_ [10] (.rng1 (.var 2)) W2) Xb)) {nx:=λ_ M=>Q .non M,rt:=Q} [↑a,some (.int (f:Nat)),some (.int (P:Nat)),some (.int (X:Nat)),some (.int (c:Nat)),some (.int (b:Nat)),some (.int (g:Nat)),some (.int ((c:Int)+1)),↑(Ug M),some (.tup [.int (y:Nat),.int (n:Nat)]),none,none] e:=by intro y n e v m h;generalize z:(Ss.cons (S.for_ [10] _ _) _)=B;rfl';rw[qm 'd'];show(Z8 (cL h),Z0 'd',by simp,Z0 'd',_,cW h,by erw[Ai,Y8];show Z1 'o',?_);subst z;show Zw3 g0 g1 g2 g3 (t:=Ys5 (f:Int) y n) (be:=b) r 'o' T R v (C6 'k' 'k' _ _ _) (m.set (na _)) J (na _) ?_ q;rw[Yy h,As];rfl
 have s:(f:Int) / 3 % 2=((f / 3 % 2:Nat):Int):='o';rw[s];have H:f / 3 % 2<2:=Nat.mod_lt _ 'd';generalize f / 3 % 2=j at H;generalize o:M1++_=e;have m:Kp M e:=o ▸ I.app _;have h:e[Ug M]?=_:=o ▸ Z5 N;have L:e[Ug M1]?=some (Cell.lst [D.tup [D.int ((c:Int)+1),D.int ((c:Int)+1+(g:Nat))],D.tup [D.int ((c:Int)+1+(g:Nat)),D.int ((c:Int)+1)]]):=o ▸ Zb;clear o
 match j,H with
 | 0,_=>show ix_l (cL L) rfl ?_;show Za ?_;have:=l (c+1) (c+1+g) e (λx=>by simp[or_comm]) m h;rwa[Kg,Kg] at this
 | 1,_=>show ix_l (cL L) rfl ?_;show Za ?_;have:=l (c+1+g) (c+1) e (λx=>by simp) m h;rwa[Kg,Kg] at this
def Zh6:DSp:=λi M Q _=>∃(a b c:Nat) (e f:List Nd) (g:LQ),i=[.ref a,.ref b,.ref c]/\readL M a=some (e.map Nd.d)/\readL M b=some (f.map Nd.d)/\readL M c=some (natD g)/\(Ug e)<=1000/\Mdn e f g/\∀h,Kp M h->Q (.bl true) h
def Yp4{a:List Nd}(o:GT.Ord (wy a) (Ug a) O)(e:O=Aj (Ug a)):GT.Num (wy a) (Ug a):=by
 subst e;show(by have:=(Ab.mp o.z).1;simpa using this,λx d y c=>?_,λk g i=>?_)
 .show o.lt y (o.cl x (Hj.mpr d) y c)
 .let(j,p,h,b,f):=o.up k k (Ho g) i;have l:=(Ab.mp b).1;rw[Kj] at l;rw[Ho l] at b;cases b;show(j,h,f)
def natP(a:LQ):List PyData:=a.map fun(x:Nat)=>PyData.int (x:Int)
def Ew:∀l:LQ,PDs M (natP l) (natD l)
 | []=>rfl
 | _::r=>(_,_,rfl,rfl,Ew r)
def Bl:∀l:LQ,PyData.canLayAll0 (natP l)=true
 | []=>by ext natP;rw[Dh,PyData.canLayAll0]
 | x::r=>by change PyData.canLayAll0 (PyData.int (x:Int)::natP r)=true;ext PyData.canLayAll0;rw[Bl r];rfl
def Z50:∀l:LQ,PyData.depthAll (natP l)<=4
 | []=>by simp[natP,PyData.depthAll]
 | x::r=>by change PyData.depthAll (PyData.int (x:Int)::natP r)<=4;ext PyData.depthAll;have:=Z50 r;erw[PyData.depth];lia
def Zj0{m n:Nat}{a:LQ}(d:readL M m=some (natD a))(c:readL M n=some (natD a))(q:B true):eqD M (.ref m) (.ref n) B:=by
 have b:PyData.canLay0 (.list (natP a))=true:=by ext PyData.canLay0;show Bl a
 show .inl (.list (natP a),.list (natP a),(m,_,rfl,d,Ew a),(n,_,rfl,c,Ew a),b,b,?_,?_)
 .unfold PyData.depth;have:=Z50 a;lia
 .rw[PySem.SeqAt.eqv_refl _ b];show q
def Za4{Γ G}(g5:Γ[19]?=some Wc)(g6:Γ[20]?=some J9)(g7:Γ[25]?=some Xo)(g8:Γ[27]?=some Zo7):Rd K Γ G Zh6 O9 Oo:=by
 rintro U M Q Z ⟨a,b,c,I,f,k,rfl,S,A,E,hl,g,q⟩;delta O9 Oo;rfl';show Zm A ?_;rfl';show Zm E ?_;have y0:=g.few;have m:=g.pos;rw[Z3,Ai,g.len];rfl'
 try rw[ng 's']
 try rw[ng 'o']
 try rw[nc 'o']
 delta Rk;rfl';show('o','o',?_);rw[Hr];show Y5 (λi l D=>∃W V,l=[↑a,↑b,↑c,some (.int (Ug f:Nat)),W,V]/\Kp M D) (none,none,rfl,Kp.refl M) (λ_ _ _ _ _=>trivial) ?_ ?_
 .rintro i dx l D C P ⟨W,V,rfl,h⟩ hC;let(hi,rfl):=X7 P;obtain⟨d,v⟩:∃d,f[i]?=some d:=(_,Aa hi);let(e,F,e2,e3,e4):=g.like i d v;have Y:k[i]?=some (k.getD i 0):=by rw[Ad,Aa (by rw[g.len];show hi)];rfl
  generalize k.getD i 0=o at F Y;have ol:o<Ug I:=(Ab.mp F).1;delta R8;rfl';show ix_l (h.L E) (Yh Y) ?_;rfl'
  try rw[ng 'o']
  try show Zm (h.L S) ?_
  rfl'
  try rw[Ai]
  try rw[nc 'o']
  delta Rt;rfl';show ix_l (h.L A) (Xs v) (ix_l (h.L S) (Xs F) ?_);show(e,d.gs.reverse,Ug f,by rw[<-e2],by rw[Ht];show e3,λx P=>g.cl d (Am v) x (Dl.mp P),?_);delta Re;rfl';show ix_l (h.L A) (Xs v) ?_;show(d,rfl,?_);have r:=Zb (M:=D) (c:= .lst (natD d.gs));have p:=h.app [.lst (natD d.gs)];generalize hM:D++[.lst (natD d.gs)]=B at r p |-;show(_,cL r,?_);erw[capD,Az,Dh,Hg,Dz,Dv,Dr,Hh];show Zj (λj l s=>∃H,l=[H,↑c]/\s=B++[.lst (natD ((d.gs.take j).map λt=>k.getD t 0))]) (none,rfl,rfl) ?_ ?_ ?_
  .rintro j l s _ ⟨H,rfl,rfl⟩;show cL (Z5 r)
  .rintro j dx l s C2 N ⟨H,rfl,rfl⟩ T;let(y,X,rfl):=Zp N;have yl:=g.cl d (Am v) y (Am X);have R:k[y]?=some (k.getD y 0):=by rw[Ad,Aa (by rw[g.len];show yl)];rfl
   have z0:=d.gs_two;rfl';show ix_l (Z4 (p.L E)) (Yh R) ?_;show(_,cW Zb,by rw[Z3,Ai,Hz];show Z1 'o',?_);show T _ _ (_,rfl,?_);rw[Df _ _ (na _),Nat.sub_self,Yc X,As,Yu];rfl
  rintro l s ⟨H,rfl,rfl⟩;rw[Z3,Dj,e4];have n:=p.app [.lst (natD e.gs)];have w:=Zb (M:=B) (c:= .lst (natD e.gs));generalize B++[.lst (natD e.gs)]=s at n w |-;show ix_l (n.L S) (Xs F) ?_;show(e,rfl,?_);show Zj0 (cL (Z5 w)) (cL Zb) ?_;show hC _ _ (_,_,rfl,n.app _)
 .rintro l D ⟨W,V,rfl,h⟩;delta Rw;have h0:k[0]?=some 0:=by
   have:k[0]?=some (k.getD 0 0):=by rw[Ad,Aa (by rw[g.len];show m)];rfl
   rw[this,g.z]
  rfl';show ix_l (h.L E) (Yh h0) ?_;show(b,f,rfl,h.L A,m,'o',g.cl,λO B r1 o en k1 h1 l1=>?_);have eO:O=Aj (Ug f):=by have:=en.uniq g.en;have:=congrArg List.reverse this;rwa[Go,Go] at this
  have u:=Yp4 o eO;subst eO;show('o','o',?_);rw[Hr,G3];show Zj0 (Z4 (Zf h1)) (cL Zb) ?_;have J:=(h.trans k1).app [.lst (natD (Aj (Ug f)))];generalize B++[.lst (natD (Aj (Ug f)))]=s at J |-;show(b,f,rfl,J.L A,'o',m,u.cl,λod M3 k3=>?_,λno=>absurd (g.od u) no);show q _ (J.trans k3)
def Z13:DSp:=λh M Q _=>∃(a r f:Nat) (b c:List Nd) (e:LQ),h=[.ref a,.tup [.ref r,.ref f]]/\readL M a=some (b.map Nd.d)/\Zh M r=some (c.map Nd.d)/\Zh M f=some (natD e)/\(Ug b)<=1000/\0<Ug b/\(∀x,x<Ug b->∀y∈wy b x,y<Ug b)/\(OD.Ord (Ug b) (wy b)->c=b/\e=Aj (Ug b))/\Mdn b c e/\Zh M a=some (b.map Nd.d)/\∀g,Kp M g->Q (.bl true) g
def Y44{Γ G}(g7:Γ[25]?=some Xo)(g8:Γ[29]?=some Zh6)(g9:Γ[23]?=some (X1 3)):Rd K Γ G Z13 Zc8 Zd2:=by
 rintro s M Q Z ⟨a,r,w,k,b,C,rfl,p,o,g,A,H,I,h,E,F,q⟩;delta Zc8 Zd2;rfl';rw[nc 'd'];show Za ?_;delta E8;rfl';rw[Z01 o];rfl';rw[Z01 g];rfl';delta Fs;rfl';show(a,k,rfl,p,A,H,I,λD t f=>?_,λN t f=>?_)
 .let(rfl,rfl):=h D;rfl';show Zm (f.L p) ?_;show('o',by rw[Ai];lia,?_);rw[Ai,Hr,G3];have e:=f.app [.lst (natD (Aj (Ug b)))];have B:=Zb (M:=t) (c:= .lst (natD (Aj (Ug b))));generalize t++[.lst (natD (Aj (Ug b)))]=J at e B |-;show(Z0 'd',?_);show(_,_,rfl,.inr (.inl (_,_,rfl,rfl,rfl,by simp,λi x y n z=>?_)),?_)
  .match i with
   | 0=>cases n;cases z;show .inr (.inr (r,a,_,_,rfl,rfl,e.W o,e.W F,rfl,by rw[Ai];lia,λj u v m l=>?_));rw[m] at l;cases l;let(d,_,rfl):=Ar.mp (Am m);show d.al
   | 1=>cases n;cases z;show .inr (.inr (w,_,_,_,rfl,rfl,e.W g,cW B,rfl,by rw[Z3,Kj];lia,λj u v m l=>?_));rw[m] at l;cases l;let(y,_,rfl):=Zp m;show AL.flat rfl
   |(i+2)=>simp at n
  .rfl';show q _ e
 .rfl';delta Gc;rfl';show(a,r,w,k,b,C,rfl,f.L p,f.L (Zf o),f.L (Zf g),A,E,λJ e=>?_);show q _ (f.trans e)
def Zx7:DSp:=λj M Q _=>∃(a:Nat) (e:List Nd) (I:Nat->List (LQ)->LQ->LQ->Prop),j=[.ref a]/\readL M a=some (e.map Nd.d)/\(∃m,I m (gsOf e) (Aj (Ug e)) [])/\
 (∀m b c B,I m b c B->(Ug b)<64/\DI (gsOf e) b c B)/\
 (∀m b c B S h R,I m b c B->(Ug b)<=40->Dstep b B S h R->∃i,i<m/\I i (nxt b S R) (c++R.map λp=>c.getD p 0) (B++[h]))/\
 (∀m b c B f,I m b c B->40<Ug b->Kp M f->Q .non f)/\
 ∀m b c B d f r g,I m b c B->(Ug b)<=40->Al b B->ND.Ends (gR (Ug b) [0] (gof b)) (Ug b) (d++[Ug b])->Kp M f->f[r]?=some (.lst ((gra (nodN e b c) d.reverse).map Nd.d))->f[g]?=some (.lst (natD (d.reverse.map λx=>c.getD x 0)))->(Ug M)<=r->r<g->Q (.tup [.ref r,.ref g]) f
def Z71{Γ G}{C:Uj}(i:Catch K C C true)(g13:Γ[13]?=some (Wx C))(v:G[1]?=some (.cls C)):Rd K Γ G Zx7 Oh O6:=by
 rintro n M Q Z ⟨a,f,I,rfl,u,t,z,c,b,k⟩;delta Oh O6;rfl';rw[v];dsimp only;show(a,f,I,rfl,u,t,z,c,λm j e B o h l g=>(i,?_),λm j e B d o r p h l A y g x w s q=>?_)
 .try show Za ?_
  delta Wz;rfl';show b m j e B o h l g
 .try dsimp only[tkD]
  delta Wz;rfl';show k m j e B d o r p h l A y g x w s q
def keyN(l:LQ):List Key:=l.map fun(x:Nat)=>(Dw (x:Int):Key)
def Y79(l:LQ):(keyN l).map kD=natD l:=by unfold keyN natD;rw[Hw];rfl
def Z42{x:Nat}:(Dw (x:Int):Key)∈keyN l↔x∈l:=by
 ext keyN;rw[Ar];constructor
 .rintro⟨y,a,e⟩;have:=Mv e;have:y=x:='o';show this ▸ a
 .show λh=>(x,h,rfl)
def Y96{l:LQ}{ks:List Key}(f:ks.Nodup)(a:∀k,k∈ks↔k∈keyN l):Ug ks=1↔∃s∈l,∀y∈l,y=s:=by
 constructor
 .intro h;let(k,rfl):=List.length_eq_one_iff.mp h;have b:=(a k).mp 's';ext b keyN;let(s,e,rfl):=Ar.mp b;show(s,e,λy d=>?_);have:=Af.mp ((a (Dw (y:Int))).mpr (Z42.mpr d));have:=Mv this;lia
 .rintro⟨s,e,h⟩;have c:∀k,k∈ks↔k∈[(Dw (s:Int):Key)]:=λk=>by
   rw[a,Af];constructor
   .intro b;ext b keyN;let(y,d,rfl):=Ar.mp b;rw[h y d]
   .rintro rfl;show Z42.mpr e
  have:=(List.perm_ext_iff_of_nodup f 's').mpr c;rw[this.length_eq];rfl
def Yi4(g:Nat->LQ)(S:LQ):Prop:=∀x∈S,∃s∈g x,s∈S/\∀y∈g x,y∈S->y=s
def Zn0:DSp:=λf M Q _=>∃(a b:Nat) (c:List Nd) (S:LQ),f=[.ref a,.ref b]/\readL M a=some (c.map Nd.d)/\readL M b=some (natD S)/\(Ug S)<=12/\(∀x∈S,x<Ug c)/\(Yi4 (wy c) S->0<Ug S->∀e,Kp M e->Q (.int ((2 * (Ug S) - 1:Nat):Int)) e)/\(¬Yi4 (wy c) S->∀e,Kp M e->Q (.int ((2 ^ (Ug S) - 1:Nat):Int)) e)/\S≠[]
def Jn{Γ G}(g5:Γ[19]?=some Wc):Rd K Γ G Zn0 Tf Te:=by
 rintro R M Q Z ⟨a,b,g,S,rfl,ha,B,hl,hS,q1,q2,ne⟩;delta Tf Te;rfl';show(_,B,?_);let P1:Nat->Prop:=λx=>∃s∈wy g x,s∈S/\∀y∈wy g x,y∈S->y=s;show Y5 (λi f r=>∃p:Bool,∃n,f=[↑a,↑b,some (.bl p),n,none]/\Kp M r/\(p=true↔∀x∈S.take i,P1 x)) (true,none,rfl,Kp.refl M,by simp) ?_ ?_ ?_
 .rintro i f r _ ⟨p,n,rfl,m,_⟩;show m.L B
 .rintro i dx f r C l ⟨p,n,rfl,m,D⟩ H;let(k,Y,rfl):=Zp l;have kl:=hS k (Am Y);obtain⟨d,hd⟩:∃d,g[k]?=some d:=(_,Aa kl);have ew:wy g k=d.gs:=V4 hd;have z0:=d.gs_two;have V:S.take (i+1)=S.take i++[k]:=Yc Y;delta Wo;rfl';show ix_l (m.L ha) (Xs hd) ?_;show(d,rfl,?_);have v:=Zb (M:=r) (c:= .lst (natD d.gs));have q:=m.app [.lst (natD d.gs)];generalize r++[.lst (natD d.gs)]=M1 at v q |-;show(_,cL v,?_);erw[capD,Az,Dh,Hg,Dz,Dv,Dr,Hh];show Zj (λj f o=>∃I,f=[I,↑b]/\o=M1++[.lst (natD ((d.gs.take j).filter λt=>decide (t∈S)))]) (none,rfl,rfl) ?_ ?_ ?_
  .rintro j f o _ ⟨I,rfl,rfl⟩;show cL (Z5 v)
  .rintro j dx f o C2 O ⟨I,rfl,rfl⟩ E;let(y,A,rfl):=Zp O;rfl';show Zb9 (Z4 (q.L B)) ?_;rfl';have W:d.gs.take (j+1)=d.gs.take j++[y]:=Yc A;by_cases w:y∈S
   .rw[ng w];show(_,cW Zb,?_,E _ _ (_,rfl,?_))
    .rw[Z3];have:=Ha (λt=>decide (t∈S)) (d.gs.take j);rw[Hz] at this;show Z1 'o'
    .rw[Df _ _ (na _),Nat.sub_self,W,Lp,List.filter_cons_of_pos ↥w,Yu];rfl
   .rw[nc w];show E _ _ (_,rfl,?_);rw[W,Lp,List.filter_cons_of_neg ↥w,List.filter_nil,Hd]
  rintro f o ⟨I,rfl,rfl⟩;rw[Z3,Dj];show(keyN (d.gs.filter λt=>decide (t∈S)),by rw[Y79];show cL Zb,?_,λF nd J=>?_)
  .unfold keyN;rw[Ai];have:=Ha (λt=>decide (t∈S)) d.gs;show Nat.lt_of_le_of_lt (show _<=3 by lia) 'd'
  have N:=Y96 nd J;have X:Ug F=1↔P1 k:=by
   rw[N];change _↔∃s∈wy g k,s∈S/\∀y∈wy g k,y∈S->y=s;rw[ew];constructor
   .rintro⟨s,hs,h⟩;let(U,T):=Di.mp hs;show(s,U,↥T,λy A w=>h y (Di.mpr (A,↥w)))
   .rintro⟨s,U,T,h⟩;show(s,Di.mpr (U,↥T),λy A=>h y (Di.mp A).1 (by simpa using (Di.mp A).2))
  rfl';by_cases u:Ug F=1
  .have P:¬¬((Ug F:Int)=1):=λz=>z 'o';rw[nc P];show Za ?_;show H _ _ (p,_,rfl,q.app _,?_);rw[D,V];constructor
   .intro h x l;rcases Ap.mp l with l|l
    .show h x l
    .rw[Af] at l;subst l;show X.mp u
   .show λh x l=>h x (Ax _ l)
  .have P:¬((Ug F:Int)=1):=λz=>u 'o';rw[ng P];show Za ?_;show H _ _ (false,_,rfl,q.app _,?_);rw[V];show(λz=>(Bf9 z).elim,λh=>(u (X.mpr (h k 's'))).elim)
 .rintro f r ⟨p,n,rfl,m,D⟩;rw[Z3,Dj] at D;delta V5;rfl';have l0:0<Ug S:=List.length_pos_iff.mpr ne;by_cases e:p=true
  .rw[ng e];show Zm (m.L B) ?_;rfl';rw[Z3];show(mulL 'd' 'd',?_);have:=q1 (D.mp e) l0 r m;rw[show(2:Int) * ((Ug S:Nat):Int) - 1=((2 * (Ug S) - 1:Nat):Int) by lia];show this
  .rw[nc e];show Za ?_;delta Ws;rfl';show(_,m.L B,?_);show Y5 (λi f o=>∃n,f=[↑a,↑b,some (.bl p),n,some (.int ((2 ^ i:Nat):Int))]/\o=r) (n,rfl,rfl) ?_ ?_ ?_
   .rintro i f o _ ⟨n,rfl,rfl⟩;show m.L B
   .rintro i dx f o C l ⟨n,rfl,rfl⟩ H;delta V1;rfl';show(mulL 'd' 'd',?_);have e2:(2:Int) * ((2 ^ i:Nat):Int)=((2 ^ (i+1):Nat):Int):=by rw[Nat.pow_succ];lia
    rw[e2];show H _ _ (_,rfl,rfl)
   .rintro f o ⟨n,rfl,rfl⟩;rw[Z3];delta Wr;rfl';have:=q2 (λz=>e (D.mpr z)) o m;have ps:0<2 ^ (Ug S):=Nat.pow_pos 'o';rw[show((2 ^ (Ug S):Nat):Int) - 1=((2 ^ (Ug S) - 1:Nat):Int) by lia];show this
def Cq:DSp:=λe M Q _=>∃(a:Nat) (b:List Nd),e=[.ref a]/\readL M a=some (b.map Nd.d)/\(Ug b)<=12/\(∀x,x<Ug b->∀y∈wy b x,y<Ug b)/\∀c,Kp M c->Q (.int ((CN.upto (wy b) (Ug b) (Ug b):Nat):Int)) c
structure Cnt(M M':Z2)(nds:List Nd)(p:Nat)(r:Nat->Nat)(F:Nat->LQ)(n:Nat):Prop where
 kp:Kp M M'
 lp:Ug M<=p
 hp:M'[p]?=some (.lst ((Aj n).map λk=> .ref (r k)))
 hr:∀k,k<n->M'[r k]?=some (.dct (begD (F k)))/\(Ug M)<=r k
 hF:∀k,k<n->(F k).Nodup/\∀x,x∈F k↔Rp (wy nds) k x
def Cnt.ext{M d c:Z2}{a:List Nd}{p:Nat}{n:Nat}(h:Cnt M d a p r F n)(k:Kp d c):Cnt M c a p r F n:=(h.kp.trans k,h.lp,kp_c k h.hp,λi b=>(kp_c k (h.hr i b).1,(h.hr i b).2),h.hF)
def Ba(F:LQ):Xk (begD F)=natD F:=J7 F λ_=> .bl true
def Zt9{Γ G}(g5:Γ[28]?=some Cj)(g6:Γ[32]?=some Zn0):Rd K Γ G Cq Z52 Z08:=by
 rintro ds M Q Z ⟨a,b,rfl,ha,hl,H,q⟩;delta Z52 Z08;rfl';show Zm ha ?_;rw[Ai];show('o','o',?_);rw[Hr];erw[capD,Az,Dh,Hg,Dz,Dv,Dr,Hh];show Zj (λi s l=>∃B r F,s=[B,↑a]/\Cnt M l b (Ug M) r F i) (none,λ_=>0,λ_=>[],rfl,Kp.new _ _,na _,Zb,λk m=>by lia,λk m=>by lia) (λ_ _ _ _ _=>trivial) ?_ ?_
 .rintro i dx s l C J ⟨B,r,F,rfl,d⟩ hC;let(t,rfl):=X7 J;rfl';show(a,i,b,rfl,d.kp.L ha,'o',t,H,λF1 M1 nd r0 k1 o=>?_);have f:=d.ext k1;have lm:=d.kp.le;have x1:=c_lt d.hp;show(_,cW f.hp,by rw[Ai,Kj];show Z1 'o',?_);show hC _ _ (_,λk=>if k=i then (Ug l) else r k,λk=>if k=i then F1 else F k,rfl,f.kp.set (na _),na _,?_,λk m=>?_,λk m=>?_)
  .rw[Yy f.hp,Kl,As];have e1:((Aj i).map λk=>D.ref (if k=i then Ug l else r k))=(Aj i).map λk=>D.ref (r k):=Hu λk m=>by have:=Hj.mp m;rw[nc 'o']
   rw[e1,Az,Dh,ng rfl]
  .by_cases e:k=i
   .rw[ng e,ng e];show(c_ne o 'o','o')
   .rw[nc e,nc e];let(b1,b2):=f.hr k 'o';show(c_ne b1 λz=>?_,b2);rw[<-z,f.hp] at b1;cases b1
  .by_cases e:k=i
   .subst e;rw[ng rfl];show(nd,r0)
   .rw[nc e];show f.hF k 'o'
 rintro s l ⟨B,r,F,rfl,d⟩;rw[Xf] at d;generalize (Ug M)=p at d;rfl';show(Z0 'd',?_);have f:=d.ext (Kp.new l [.lst []]);have l1:=d.kp.le;have o:=Zb (M:=l) (c:= .lst (natD []));have l2:(l++[Cell.lst []]).length=Ug l+1:=by simp
 have lp:=c_lt d.hp;generalize hM:l++[.lst []]=M1 at f l2 |-;replace o:M1[Ug l]?=some (.lst (natD [])):=hM ▸ o;generalize o0:Ug l=u at o l2 lp l1 |-;clear hM o0 d;show Za ?_;rfl';show Zm (f.kp.L ha) ?_;rw[Ai];show('o','o',?_);rw[Hr];show Y5 (λi s h=>∃P u d4 d5,s=[↑a,↑p,some (.int ((CN.upto (wy b) (Ug b) i:Nat):Int)),↑u,d4,d5]/\Cnt M h b p r F (Ug b)/\h[u]?=some (.lst (natD P))/\(Ug P)<=12 * i/\∀x,x∈P↔∃k,k<i/\Rp (wy b) k x/\Rp (wy b) x k)
  ([],u,none,none,rfl,f,o,na _,λx=>(λz=>(by cases z),λzz=>by let(k,m,_):=zz;show absurd m 'o')) (λ_ _ _ _ _=>trivial) ?_ ?_
 .clear f o l2 lp l1;rintro i dx s h C J ⟨P,u,d4,d5,rfl,d,hP,lP,mP⟩ hC;let(t,rfl):=X7 J;delta Na;rfl';show Zb9 (cL hP) ?_;rfl';by_cases iP:i∈P
  .rw[ng iP];let(k,m,r1,r2):=(mP i).mp iP;have e:=CN.placed (n:=Ug b) m (CN.P1.rc r1) (CN.P1.rc r2);show hC _ _ (P,u,_,_,by rw[e],d,hP,'o',λx=>?_);rw[mP];constructor
   .rintro⟨j,hj,z⟩;show(j,'o',z)
   .rintro⟨j,hj,z1,z2⟩;by_cases ej:j=i
    .subst ej;show(k,m,CN.P1.trans r1 (CN.P1.rc z1),CN.P1.ahead (CN.P1.rc z2) r2)
    .exact(j,'o',z1,z2)
  .rw[nc iP];show Za ?_;let(g,y1):=d.hr i t;let(Y,w):=d.hF i t;have n0:((Aj (Ug b)).map λk=>D.ref (r k))[i]?=some (.ref (r i)):=by rw[Ch,Ho t];rfl
   delta O8;rfl';show ix_l (cL d.hp) n0 ?_;show(begD (F i),cD g,?_);rw[Ba];erw[capD,Az,Dh,Hg,Dz,Dv,Dr,Hh];have s0:r i≠p:=λz=>by rw[z,d.hp] at g;cases g
   show Zj (λj s l=>∃B,s=[B,some (.int (i:Nat)),↑p]/\l=h.set (r i) (.fdc (begD (F i)))++[.lst (natD (((F i).take j).filter λy=>decide (i∈F y)))]) (none,rfl,rfl) ?_ ?_ ?_
   .rintro j s l _ ⟨B,rfl,rfl⟩;show(begD (F i),Z5 (Yy g),(Ba _).symm)
   .rintro j dx s l C2 q0 ⟨B,rfl,rfl⟩ v0;let(y,hy,rfl):=Zp q0;have yF:=Am hy;have yl:y<Ug b:=CN.P1.lt H t ((w y).mp yF);let(O,m0):=d.hr y yl;have p0:((Aj (Ug b)).map λk=>D.ref (r k))[y]?=some (.ref (r y)):=by rw[Ch,Ho yl];rfl
    have fl:(F i).length<=12:=ni (ND.Zu (Ug b) _ Y λx J=>CN.P1.lt H t ((w x).mp J)) hl;have tj:(F i).take (j+1)=(F i).take j++[y]:=Yc hy;rfl';show ix_l (cL (Z5 (c_ne d.hp s0))) p0 ?_;have E:if (decide (i∈F y))=true then ∃V:LD,Zh (h.set (r i) (Cell.fdc (begD (F i)))++[Cell.lst (natD (((F i).take j).filter λy=>decide (i∈F y)))]) (Ug h)=some V/\(Ug V)<sizeLine/\C2 [some (.int (y:Nat)),some (.int (i:Nat)),↑p] ((h.set (r i) (Cell.fdc (begD (F i)))++[Cell.lst (natD (((F i).take j).filter λy=>decide (i∈F y)))]).set (Ug h) (Cell.lst (V++[D.int (y:Nat)]))) else C2 [some (.int (y:Nat)),some (.int (i:Nat)),↑p] (h.set (r i) (Cell.fdc (begD (F i)))++[Cell.lst (natD (((F i).take j).filter λy=>decide (i∈F y)))]):=by
     have ls:(h.set (r i) (.fdc (begD (F i)))).length=Ug h:=by simp
     by_cases iy:i∈F y
     .rw[ng ↥iy];show(natD (((F i).take j).filter λy=>decide (i∈F y)),?_,?_,v0 _ _ (_,rfl,?_))
      .rw[<-ls];show cW Zb
      .rw[Z3];have:=Ha (λy=>decide (i∈F y)) ((F i).take j);rw[Hz] at this;show Z1 'o'
      .rw[<-ls,Df _ _ (na _),Nat.sub_self,tj,Lp,List.filter_cons_of_pos ↥iy,Yu];rfl
     .rw[nc ↥iy];show v0 _ _ (_,rfl,?_);rw[tj,Lp,List.filter_cons_of_neg ↥iy,List.filter_nil,Hd]
    by_cases er:r y=r i
    .refine .inr (.inr (.inr (begD (F i),_,by rw[er];show Z5 (Yy g),rfl,?_)));have eF:begD (F i)=begD (F y):=by rw[er,g] at O;have:=Hb O;injection this
     rw[eF,X2];rw[<-eF];simpa using E
    .refine .inr (.inl (begD (F y),_,cD (Z5 (c_ne O λz=>er z.symm)),rfl,?_));rw[X2];simpa using E
   rintro s l ⟨B,rfl,rfl⟩;rw[Z3,Dj];show(begD (F i),Z5 (Yy g),?_);rw[Jo g];have mS:∀x,x∈(F i).filter (λy=>decide (i∈F y))↔Rp (wy b) i x/\Rp (wy b) x i:=by
    intro x;rw[Di,w];constructor
    .rintro⟨o,h2⟩;show(o,((d.hF x (CN.P1.lt H t o)).2 i).mp ↥h2)
    .rintro⟨o,h2⟩;show(o,by simpa using ((d.hF x (CN.P1.lt H t o)).2 i).mpr h2)
   have I:((F i).filter λy=>decide (i∈F y)).Nodup:=Y.filter _;generalize (F i).filter (λy=>decide (i∈F y))=S at mS I;have sl:∀x∈S,x<Ug b:=λx J=>CN.P1.lt H t ((mS x).mp J).1;have sn:Ug S<=12:=ni (ND.Zu (Ug b) _ I sl) hl;have np:∀k,k<i->¬(CN.P1 (wy b) k i/\CN.P1 (wy b) i k):=λk m z=>iP ((mP i).mpr (k,m,z));have t0:=d.ext (Kp.new h [.lst (natD S)]);have T:=Zb (M:=h) (c:= .lst (natD S));have w0:=Z5 (N:=[.lst (natD S)]) hP;generalize hM:h++[.lst (natD S)]=M3 at t0 T w0 |-;rfl';show(_,_,cW w0,cW T,Z0 (by rw[Z3,Z3];lia),?_);rw[<-Yu];have u0:=t0.ext (Kp.new M3 [.lst (natD (P++S))]);have R:=Z5 (N:=[.lst (natD (P++S))]) T;have x0:=Zb (M:=M3) (c:= .lst (natD (P++S)));generalize M3++[.lst (natD (P++S))]=M4 at u0 R x0 |-;have z0:∀x,x∈P++S↔∃k,k<i+1/\Rp (wy b) k x/\Rp (wy b) x k:=by
    intro x;rw[Ap,mP,mS];constructor
    .rintro(⟨k,m,z⟩|z)
     .exact(k,'o',z)
     .exact(i,'o',z)
    .rintro⟨k,m,z⟩;by_cases ek:k=i
     .subst ek;show .inr z
     .show .inl (k,'o',z)
   rfl';show(Z0 'd',?_);show Xx (Z4 (cL R)) (cL Zb) ?_;have A:=u0.ext (Kp.new M4 [.lst []]);have U:=Z5 (N:=[.lst []]) x0;have y0:=Z5 (N:=[.lst []]) R;generalize M4++[.lst []]=M5 at A U y0 |-;by_cases eS:S=[]
   .subst eS;rw[ng (by rfl)];have e:=CN.alone (n:=Ug b) t H np λx z=>by have:=(mS x).mpr z;simp at this
    show hC _ _ (P++[],_,_,_,by rw[e,Kg];rfl,A,U,by rw[Ag];lia,z0)
   .rw[nc ↥eS];let(s1,s2):=CN.some_ (n:=Ug b) t H np I mS eS;have go:∀v:Nat,CN.upto (wy b) (Ug b) (i+1)=CN.upto (wy b) (Ug b) i+v->∀W,Kp M5 W->C [↑a,↑p,some (.int (((CN.upto (wy b) (Ug b) i:Nat):Int)+(v:Nat))),↑(Ug M3),some (.int (i:Nat)),↑(Ug h)] W:=by intro v e W X;have:=hC _ _ (P++S,_,some (.int (i:Nat)),↑(Ug h),rfl,A.ext X,kp_c X U,by rw[Ag];lia,z0);rwa[e,Kg] at this
    show(a,_,b,S,rfl,A.kp.L ha,cL y0,sn,sl,λu _ W X=>?_,λu W X=>?_,eS)
    .rfl';show go _ (s1 u) W X
    .rfl';show go _ (s2 u) W X
 .rintro s h ⟨P,u,d4,d5,rfl,d,hP,lP,mP⟩;rw[Xf];delta Oz;rfl';show q _ d.kp
def B0:DSp:=λh M Q _=>∃(a g c:Nat) (e:List Int),h=[.ref a,.int g,.int c]/\readL M a=some (e.map .int)/\(Ug e)<=63/\(∀i∈e,Bits bigN i)/\0<c/\c<=100/\g<=100/\
 ∀(b:List Nd) f r,GT.Num (wy b) (Ug b)->ND.Ends (wy b) 0 (Aj (Ug b)).reverse->(Ug b)<=c->(∀d∈b,d.ok=true)->Kp M f->Zh f r=some (b.map Nd.d)->(Ug M)<=r->Q (.ref r) f
def Zr2{Γ G}(g2:Γ[14]?=some Ou)(g3:Γ[15]?=some Vt)(g6:Γ[18]?=some Zj5)(g9:Γ[21]?=some Sh):Rd K Γ G B0 Z39 Z28:=by
 rintro ds M Q Z ⟨a,st,mo,ns,rfl,hm,hl,hb,hmo,hmo2,hst,q⟩;delta Z39 Z28;rfl';show(a,ns,st,rfl,hm,?_);show(_,77,rfl,'d','d',?_);have m1:=E5 (Xr ns st) 77;have m2:=Y40 (Xr ns st) 77;generalize mix (Xr ns st) 77=u at m1 m2;rfl';have hp:(0:Int)<mo:='o';rw[qm hp,qd (show(0:Int)<6 by decide)];show(Zz 'd' 'd','o',Za ?_);rfl';show(Zz 'd' 'd',?_);have r1:=Hy (u / 6) (show(mo:Int)≠0 by lia);have r2:=Ii (u / 6) hp;have key:∀many:Nat,0<many->many<=mo->tss (K,Γ,G) noX Sl {nx:=λ_ M=>Q .non M,rt:=Q} [↑a,some (.int st),some (.int mo),some (.int u),some (.int many),none] M:=by
  intro many h0 h40;delta Sl;rfl';show('o','o',?_);erw[capD,Az,Dh,Hg,Dz,Dv,Dr,Hh];show Zj (λi σ M'=>∃d m nds N,σ=[d,↑a,some (.int st),some (.int many),some (.int m)]/\M'=M++ .lst (nds.map Nd.d)::N/\(Ug nds)=i/\(∀x∈nds,∀t∈x.gs,t<many)/\∀x∈nds,x.ok=true) (none,_,[],[],rfl,rfl,rfl,by simp,by simp) (λ_ _ _ _ _=>trivial) ?_ ?_
  .rintro i dx σ M' C hx ⟨d,m,nds,N,rfl,rfl,hlen,hgs,hok⟩ hC;have hi:i<many:=by have:=(Ab.mp hx).1;rw[Xh] at this;lia
   rw[Gs 'o'] at hx;cases hx;erw[Int.zero_add];rfl';show(a,ns,st+1+i,?_,Z4 hm,?_)
   .congr 3
   rfl';show(Xr ns (st+1+i),_,i,many,rfl,Zb4 hb _,hi,'o',λnd M2 g1 g2 k2=>?_);let(L,rfl):=k2;rw[Db,Kh];show(_,Yk _ _ _,by rw[Ai];show Z1 'o',?_);rw[Sf];show hC _ _ (_,_,nds++[nd],N++L,rfl,by rw[As];rfl,by rw[Ag,hlen];rfl,λx hx=>?_,λx hx=>?_)
   .rcases Ap.mp hx with h|h
    .show hgs x h
    .rw[Af] at h;subst h;show g1
   .rcases Ap.mp hx with h|h
    .show hok x h
    .rw[Af] at h;subst h;show g2
  .rintro σ M' ⟨d,m,nds,N,rfl,rfl,hlen,hgs,hok⟩;rw[Xh,Hr] at hlen;show(_,nds,rfl,Zk _ _ _,'o','o',by rw[hlen];show hgs,hok,λgr O M2 r o eg n1 en n2 n3 k2 hw hr=>?_);show q gr M2 r n1 en 'o' n3 ((Kp.new M _).trans k2) hw ?_;rw[Ag] at hr;lia
 split
 .refine Zm hm ?_;rfl';have hmany:∃many:Nat,0<many/\many<=mo/\(if (if (mo:Int)< ((ns.map D.int).length:Int) - st - 1 then(mo:Int) else((ns.map D.int).length:Int) - st - 1) >1 then(if (mo:Int)< ((ns.map D.int).length:Int) - st - 1 then(mo:Int) else((ns.map D.int).length:Int) - st - 1) else 1)=many:=by
   show((if (if (mo:Int)< ((ns.map D.int).length:Int) - st - 1 then(mo:Int) else((ns.map D.int).length:Int) - st - 1) >1 then(if (mo:Int)< ((ns.map D.int).length:Int) - st - 1 then(mo:Int) else((ns.map D.int).length:Int) - st - 1) else 1).toNat,?_,?_,?_)
   .split<;>split at * <;>lia
   .split<;>split at * <;>lia
   .rw[Ks];split<;>split at * <;>lia
  let(many,h0,h1,e):=hmany;rw[e];show key many h0 h1
 .have e:1+u / 6 % (mo:Int)=((1+u / 6 % (mo:Int)).toNat:Nat):='o';rw[e];show key _ 'o' 'o'
def Yo1{n m:Nat}(e:∀x y,y∈g x↔y∈g' x)(i:DB.IK n g [] f kd m):DB.IK n g' [] f kd m:=by
 have l:∀{x y:Nat},KS.Rc (DB.lk n g' []) x y->KS.Rc (DB.lk n g []) x y:=λr=>CN.rc_congr (λx y h=>by
  let(a,b,c):=DB.mem_lk.mp h;show DB.mem_lk.mpr (a,(e x y).mpr b,c)) r
 have q:∀{x y:Nat},KS.Rc (DB.lk n g []) x y->KS.Rc (DB.lk n g' []) x y:=λr=>CN.rc_congr (λx y h=>by
  let(a,b,c):=DB.mem_lk.mp h;show DB.mem_lk.mpr (a,(e x y).mp b,c)) r
 show(i.hf,λx y j d w v p o=>i.cl x y j d w v (l p) (l o),i.bl,λx y j d k u=>?_,λx j k=>?_,i.ze)
 .let(a,b):=i.ma x y j d k u;show(a,q b)
 .let(s,t):=i.su x j k;show(s,λy d=>t y ((e x y).mpr d))
def Yb4{a:List Nd}{m w:Nat}(i:DB.IK (Ug a) (wy a) [] f kd m)(h:DB.tot (Ug a) [] f kd m<=w):Wt (gsOf a) [] w:=by
 show(f,kd,m,?_,?_)
 .rw[W3];show Yo1 Ny i
 .rw[W3,Ku,Nat.zero_add];show h
def Zs3{a:List Nd}(b:∀x,x<Ug a->∀y∈wy a x,y<Ug a):Wt (gsOf a) [] (CN.upto (wy a) (Ug a) (Ug a)):=Yb4 (CN.count_ik b) (na _)
def Yj3(h:Ug c<=6):Wt (gsOf c) [] 32:=by let(a,b):=CN.few (n:=Ug c) (g:=wy c);show Yb4 a (ni b ?_);have:2 ^ (Ug c - 1)<=2 ^ 5:=Nat.pow_le_pow_right 'o' 'o';lia
def Rgd.wt(h:Rgd gr):Wt (gsOf gr) [] 40:=by
 let(h,a,s,e,N,O,r,o,d,c,i):=h;have b:=r.ik o;have t:=r.tot o;rw[<-d] at b;have g:=r.two;show Yb4 (f:=RQ.fR a s O) (kd:=RQ.kR (Ug O)) (m:=Ug O+1) ?_ ?_
 .rw[c];show b
 .rw[c];lia
def Rgd.strange(h:Rgd gr):¬OD.Ord (Ug gr) (wy gr):=by let(h,a,s,e,N,O,r,o,b,c,d):=h;rw[b,c];show r.strange o
def Iv.over{a:List Nd}{gs:List (LQ)}{os B:LQ}(N:GT.Num (wy a) (Ug a))(le:Ug a<=40)(i:Iv a m gs os B)(l:40<Ug gs):¬OD.Ord (Ug a) (wy a)/\6<Ug a/\40<CN.upto (wy a) (Ug a) (Ug a):=by
 show(λb=>?_,Nat.lt_of_not_le λh=>?_,Nat.lt_of_not_le λh=>?_)
 .have:=(i.od b).1;rw[this,W3] at l;lia
 .have:=(i.wk 32 (Yj3 h)).many;lia
 .have:=(i.wk _ (Zs3 N.cl)).many;lia
def Y10{M:Z2}{a b c d:Nat}{gr:List Nd}{l:LQ}(o:Zh M a=some (gr.map Nd.d))(m:Zh M c=some (gr.map Nd.d))(n:Zh M b=some (natD l))(k:Zh M d=some (natD l))(q:Ug gr<=1000)(p:Ug l<=1000):AL M 3 (.tup [.ref a,.ref b]) (.tup [.ref c,.ref d]):=by
 show .inr (.inl (_,_,rfl,rfl,rfl,by simp,λi x y g h=>?_))
 match i with
 | 0=>cases g;cases h;show .inr (.inr (a,c,_,_,rfl,rfl,o,m,rfl,by rw[Ai];lia,λj u v f e=>?_));rw[f] at e;cases e;let(d,_,rfl):=Ar.mp (Am f);show d.al
 | 1=>cases g;cases h;show .inr (.inr (b,d,_,_,rfl,rfl,n,k,rfl,by rw[Z3];lia,λj u v f e=>?_));rw[f] at e;cases e;let(y,_,rfl):=Zp f;show AL.flat rfl
 |(i+2)=>simp at g
def Z31{Γ G}(g31:Γ[31]?=some Zx7)(g35:Γ[35]?=some Q6)(g25:Γ[25]?=some Xo)(g30:Γ[30]?=some Z13){x:List Int}{M:Z2}{Q:DK}{H F E u t:Option D}(hs:readL M 0=some (x.map .int))
  (q:∀O u t,Kp M O->tss (K,Γ,G) noX J8 {nx:=λ_ M=>Q .non M,rt:=Q} [↑0,H,F,E,u,t,none,none] O):
  tss (K,Γ,G) noX C7 {nx:=λ_ M=>Q .non M,rt:=Q} [↑0,H,F,E,u,t,none,none] M:=by
 delta C7;rfl'
 try erw[g35]
 show(0,x,rfl,hs,λb J w g a en V ok Z C l1=>?_);show(_,Zf C,?_);have y:=Z.app [.lst (b.map Nd.d)];have A:=Zb (M:=J) (c:= .lst (b.map Nd.d));have z:=Ql (N:=[.lst (b.map Nd.d)]) C;generalize J++[.lst (b.map Nd.d)]=M2 at y A z |-
 try erw[g31]
 have v:Wt (gsOf b) [] 40:=g.wt;have I:Ug b<=20\/(Ug b<=40/\Wt (gsOf b) [] 40):= .inr (V,v);show(_,b,Iv b,rfl,cL A,Iv.begin a I,λm p j B i=>(i.le,i.di),λm p j B S h R i l P=>i.step a I l P,λm p j B M3 i l n=>absurd (i.wk 40 v).many 'o',λm p j B d M3 r T i l al s n hr o l3 l4=>?_);have U:=i.fin l al s;have e:=n.W z;have Y:=y.trans n;rfl';show(w,b,rfl,Zf e,'o',a.pos,a.cl,λk=>absurd k g.strange,λ_ M5 f=>?_)
 try erw[g30]
 show(w,r,T,b,_,_,rfl,f.L (Zf e),f.W (cW hr),f.W (cW o),'o',a.pos,a.cl,λk=>absurd k g.strange,U,f.W e,λM6 X=>?_);show q _ _ _ ((Y.trans f).trans X)
def Zp1{Γ G}{C:Uj}(g13:Γ[13]?=some (Wx C))(g23:Γ[23]?=some (X1 3)){M:Z2}{Q:DK}{d0 d1 d4 d5:Option D}{p r f m:Nat}{gr:List Nd}{gs:List (LQ)}{os B d:LQ}(t:GT.Num (wy gr) (Ug gr))(le:Ug gr<=12)(hp:M[p]?=some (.lst (gr.map Nd.d)))(i:Iv gr m gs os B)(l:Ug gs<=40)(V:Al gs B)(en:ND.Ends (gR (Ug gs) [0] (gof gs)) (Ug gs) (d++[Ug gs]))(J:M[r]?=some (.lst ((gra (nodN gr gs os) d.reverse).map Nd.d)))(n:M[f]?=some (.lst (natD (d.reverse.map λx=>os.getD x 0))))(pr:p<r)(rr:r<f)
  (q:∀M',Q (.bl true) M'):
  tss (K,Γ,G) noX Ci {nx:=λ_ M=>Q .non M,rt:=Q} [d0,d1,↑p,some (.tup [.ref r,.ref f]),d4,d5,none,none] M:=by
 have A:=i.fin l V en;have P:=A.few;have u:=A.len;generalize y:gra (nodN gr gs os) d.reverse=new at J A P u;generalize L:(d.reverse.map λx=>os.getD x 0)=og at n A u;delta Ci;rfl';show(_,cL J,?_);have b:=Z5 (N:=[.lst (new.map Nd.d)]) J;have a:=Z5 (N:=[.lst (new.map Nd.d)]) n;have e:=Z5 (N:=[.lst (new.map Nd.d)]) hp;have z:=Zb (M:=M) (c:= .lst (new.map Nd.d));have lr:=c_lt n;have lM:(M++[Cell.lst (new.map Nd.d)]).length=Ug M+1:=by simp
 generalize M++[.lst (new.map Nd.d)]=M1 at b a e z lM |-;show(_,cL a,?_);replace b:=Z5 (N:=[.lst (natD og)]) b;replace a:=Z5 (N:=[.lst (natD og)]) a;replace e:=Z5 (N:=[.lst (natD og)]) e;replace z:=Z5 (N:=[.lst (natD og)]) z;have hB:=Zb (M:=M1) (c:= .lst (natD og));have F:(M1++[Cell.lst (natD og)]).length=Ug M1+1:=by simp
 generalize M1++[.lst (natD og)]=M2 at b a e z hB F |-;show(Z0 'd',Za ?_);rfl';show(Z8 (cL b),_,cW b,?_);have jr:=Yy (c:= .lst []) b;have g:=c_ne (c:= .lst []) a (show r≠f by lia);have jp:=c_ne (c:= .lst []) e (show r≠p by lia);have jA:=c_ne (c:= .lst []) z (show r≠Ug M by lia);have jB:=c_ne (c:= .lst []) hB (show r≠Ug M1 by lia);generalize M2.set r (.lst [])=M3 at jr g jp jA jB |-;rfl';show(Z8 (cL g),_,cW g,by rw[Z3];show Z1 'o',?_);have e0:natD og++[D.int 0]=natD (og++[0]):=by rw[Yu];rfl
 rw[e0];have Z:=c_ne (c:= .lst (natD (og++[0]))) jr (show f≠r by lia);have v:=Yy (c:= .lst (natD (og++[0]))) g;have kp:=c_ne (c:= .lst (natD (og++[0]))) jp (show f≠p by lia);have kA:=c_ne (c:= .lst (natD (og++[0]))) jA (show f≠Ug M by lia);have H:=c_ne (c:= .lst (natD (og++[0]))) jB (show f≠Ug M1 by lia);generalize M3.set f (.lst (natD (og++[0])))=M4 at Z v kp kA H |-;rfl';have bd:Ug gr<=20\/(Ug gr<=40/\Wt (gsOf gr) [] 40):= .inl 'o';let(k,X):=i.rn;show(p,gr,Iv gr,rfl,cL kp,Iv.begin t bd,λm gs os B i=>(i.le,i.di),λm gs os B S h R i l st=>i.step t bd l st,λm' O E B' M5 I Y o=>?_,λm' O E B' d' M5 s s2 I Y U T o hs w l3 l4=>?_)
 .let(k',j):=I.rn;have:=(X.one j (.inr V) (.inl Y)).1;subst this;lia
 let(k',j):=I.rn;let(rfl,rfl,rfl):=X.one j (.inr V) (.inr U);have ed:d'=d:=List.append_cancel_right (T.uniq en);subst ed;rw[y] at hs;rw[L] at w;rfl';show(_,_,rfl,Y10 (cW hs) (o.W (cW kA)) (cW w) (o.W (cW H)) 'o' 'o',?_);show(Z0 'd',Z0 'd',_,_,cW (Z5 (Z5 (kp_c o H))),cW Zb,?_);show(Z0 (by rw[Z3];simp;lia),Z0 'd',_,_,rfl,?_,q _);rw[e0];show Y10 (gr:=[]) (l:=og++[0]) ?_ ?_ ?_ ?_ 's' (by simp;lia)
 .show cW (Z5 (Z5 (Z5 (kp_c o Z))))
 .show cW (Z5 (Z5 Zb))
 .show cW (Z5 (Z5 (Z5 (kp_c o v))))
 .show cW Zb
def Yt9{Γ G}{C:Uj}(g13:Γ[13]?=some (Wx C))(g20:Γ[14]?=some Ou)(g21:Γ[15]?=some Vt)(g22:Γ[22]?=some B0)(g31:Γ[31]?=some Zx7)(g35:Γ[35]?=some Q6)(g25:Γ[25]?=some Xo)(g30:Γ[30]?=some Z13)(g23:Γ[23]?=some (X1 3))(g33:Γ[33]?=some Cq):Rd K Γ G Zn2 Y54 Zx0:=by
 rintro ds M Q Z ⟨k,rfl,rfl,hl,hb,q⟩;have hs:readL [Cell.frz (k.map D.int)] 0=some (k.map .int):=rfl;delta Y54 Zx0;rfl';show(Z0 'd',0,k,0,rfl,rfl,?_);show(Xr k 0,78,rfl,'o','o',?_);obtain⟨g,E⟩:∃g:Nat,mix (Xr k 0) 78=(g:Nat):=(_,(Ks (E5 _ _)).symm);rw[E];clear E
 try (show('d',?_))
 rw[qm 'd'];have e3:(g:Int) % 3=((g % 3:Nat):Int):='o';rw[e3];obtain⟨y,m1,m2,V⟩:∃y:Nat,0<y/\y<=12/\([.int 6,.int 9,.int 12]:LD)[g % 3]?=some (.int (y:Nat)):=by
  have:g % 3<3:=Nat.mod_lt _ 'd';rcases(show g % 3=0\/g % 3=1\/g % 3=2 by lia) with e|e|e<;>rw[e]
  .exact(6,'d','d',rfl)
  .exact(9,'d','d',rfl)
  .exact(12,'d','d',rfl)
 show ix_l (xs:=[.int 6,.int 9,.int 12]) rfl V ?_;have n:readL [Cell.frz (k.map D.int),Cell.lst [D.int 6,D.int 9,D.int 12]] 0=some (k.map .int):=rfl;generalize [Cell.frz (k.map D.int),Cell.lst [D.int 6,D.int 9,D.int 12]]=M0 at n |-;show(0,0,y,k,rfl,n,hl,hb,m1,'o','o',λf J x a en le ok k1 Y l1=>?_);have y0:=Y;rfl';show(_,Zf Y,?_);have T:=k1.app [.lst (f.map Nd.d)];have I:=Zb (M:=J) (c:= .lst (f.map Nd.d));have w:=Ql (N:=[.lst (f.map Nd.d)]) Y;generalize hM:J++[.lst (f.map Nd.d)]=M2 at T I w |-;have z0:Ug M2=Ug J+1:=by rw[<-hM];simp
 clear hM;rfl'
 try erw[g31]
 have bd:Ug f<=20\/(Ug f<=40/\Wt (gsOf f) [] 40):= .inl 'o';have o:∀{F:Z2},Kp M2 F->AL F 3 (.ref (Ug J)) (.ref x):=by intro F b;show .inr (.inr (_,x,_,_,rfl,rfl,b.W (cW I),b.W w,rfl,by rw[Ai];lia,λj u v hu hv=>?_));rw[hu] at hv;cases hv;let(d,_,rfl):=Ar.mp (Am hu);show d.al
 show(_,f,Iv f,rfl,cL I,Iv.begin a bd,λm gs O B i=>(i.le,i.di),λm gs O B S h R i l st=>i.step a bd l st,λm gs O B F i l b=>?_,λm gs O B d F r r2 i l al t b hr U l3 l4=>?_)
 .let(o1,o2,o3):=i.over a 'o' l;rfl';show(_,_,rfl,o b,?_);show Z31 g31 g35 g25 g30 ((T.trans b).L n) λM4 d4 d5 p=>?_;delta J8;rfl';show(x,f,rfl,p.L (b.L (Zf w)),'o',a.pos,a.cl,λP=>absurd P o1,λ_ M5 k5=>?_);rfl';show Zm (k5.L (p.L (b.L (Zf w)))) ?_;rfl';rw[Ai];rw[ng 'o'];rfl'
  try erw[g33]
  show(x,f,rfl,k5.L (p.L (b.L (Zf w))),'o',a.cl,λM6 H=>?_);rfl';rw[decide_eq_true 'o'];show q _
 .rfl'
  try erw[g23]
  show(_,_,rfl,o b,?_);rfl'
  try show Za ?_
  show Z31 g31 g35 g25 g30 ((T.trans b).L n) λM4 d4 d5 p=>?_;have A:=kp_c p hr;have s:=kp_c p U;have X:=kp_c p (kp_c b I);have z:=p.W (b.W w);delta J8;rfl'
  try show Za ?_
  delta Zm8;rfl'
  try erw[g30]
  show(x,r,r2,f,_,_,rfl,Zf z,cW A,cW s,'o',a.pos,a.cl,λP=>i.same a en P t,i.fin l al t,z,λM6 H=>?_);rfl'
  try show Za ?_
  show Zp1 g13 g23 a 'o' (kp_c H X) i l al t (kp_c H A) (kp_c H s) 'o' l4 q
structure DW(K:Ae)(mg:Str->Option Uh)(n:Str)(st:Stmt)(ps:LS) where
 mk::
 a:Uj
 d:FuncData
 F:Fun K n n st a d
 g:mg n=↑a
 k:Hm K (.ref a)=true
 b:Yo K d ps []
def DW.of{K:Ae}{h:Um}{mg:Str->Option Uh}{n:Str}{st:Stmt}{ps:LS}{f:Uj}{oc kV dc pm cd ct:Uh}{od an:Option Uj}{sl:Array (Option Uh)}(X:K.In h)(G:h.Ns mainGlobals mg)(a:Ue K mainGlobals n=some (↑f))
  (l:K.lookup f=some (oc,od,.func (Kv n n (Xj st) (Y1 st) (Z7 st) .none kV dc pm an cd ct),sl)) (c:Mb K cd n=true) (k:Hm K (.ref f)=true) (b:∀kV dc pm an cd ct,Yo K (Kv n n (Xj st) (Y1 st) (Z7 st) .none kV dc pm an cd ct) ps []:=by intro _ _ _ _ _ _;show .all ?_;repeat first | show U.Y15 rfl | show U.Zd3 λ_=>?_):DW K mg n st ps:=
 (f,_,Yo7 (st:=st) l c k,PySem.W.mg_of X G a,k,b _ _ _ _ _ _)
def DW.en{K:Ae}{mg:Str->Option Uh}{n:Str}{st:Stmt}{ps:LS}(T:DW K mg n st ps):Ent K mg n:=(_,_,_,T.g,T.k,T.b)
structure EX(K:Ae)(mg:Str->Option Uh) where
 mk::
 J:Uj
 B:Uj
 I:Uj
 d:FuncData
 gJ:mg "JumpError"=↑J
 gB:mg "TooGreat"=↑B
 mB:ExcMk K B I
 sB:ExcSet K B "row"
 gt:ExcGet K B "row"
 is:ExcIs K B
 ca:Catch K B J true
 co:Catch K B B true
 kC:Kk K (.ref B) (.ref B)=some true
 kv:Kk K (.ref B) (.type "ValueError")=some true
 ok:∀(P:Uk) (w:Ul) (mg:Str->Option Uh) (base:Um),FnOk P w K mg base CX0 1 I d ["self","row"] (Om K)
 b1:Yo K d ["self","row"] [.none]
 b0:Yo K d ["self","row"] []
def EX.of{K:Ae}{h:Um}{mg:Str->Option Uh}{J B N fi Ti:Uj}{kV dc pm cd ct oc o2:Uh}{an od dd o3:Option Uj}{sl s2:Array (Option Uh)}{nm q:Str}{bs sub:LW}{sn:LS}{ab:Bool}{col:Option Bool}{ka kb kc kd ke:Option Uh}{nT:Nat}(X:K.In h)(G:h.Ns mainGlobals mg)(n0:Ue K mainGlobals "JumpError"=some (↑J))(n1:Ue K mainGlobals "TooGreat"=some (↑B))
  (xl:K.lookup B=some (excClassObj nm q B N bs (.ref J::vs4) true sn sub ab col dd ka kb kc kd ke "ValueError.__new__")) (xa:Iy K (.ref B) "__init__"=some (↑fi)) (xb:PySem.W.isFn K (.ref fi)=true) (xc:Hm K (.ref B)=true) (xd:Iy K (.ref B) "row"=some none) (xe:Iy K (.ref B) "__setattr__"=some (some (.builtin "object.__setattr__"))) (xf:Iy K (.ref B) "__getattribute__"=some (some (.builtin "BaseException.__getattribute__"))) (xg:Iy K (.ref B) "__getattr__"=some none) (xh:Lv K B (.type "BaseException")=some true) (xi:Iy K (.ref B) "__class__"=some (some (.builtin "object.__class__"))) (xj:Lv K B (.type "object")=some true) (xk:Lv K B (.ref J)=some true) (xm:PySem.W.typeIn K (.ref B)=some (.type "type")) (xn:PySem.W.isClsIn K B=true) (xo:Lv K B (.ref B)=some true)
  (y:Kk K (.ref B) (.ref B)=some true) (yv:Kk K (.ref B) (.type "ValueError")=some true)
  (w0:PySem.W.specialIn K (.builtin "object.__class__") "__get__"=some (some (.builtin "getset_descriptor.__get__"))) (w1:PySem.W.takesIn K (.builtin "object.__class__")=some true) (w2:PySem.W.typeIn K (.ref J)=some (.type "type")) (w3:PySem.W.isClsIn K J=true) (w4:Lv K J (.type "BaseException")=some true)
  (il:K.lookup fi=some (oc,od,.func (Kv "__init__" "JumpError.__init__" (Xj E7) (Y1 E7) (Z7 E7) (.ref Ti) kV dc pm an cd ct),sl)) (ic:Mb K cd "JumpError.__init__"=true) (it:K.lookup Ti=some (o2,o3,.seq #[.none] nT,s2)):EX K mg:=
 (J,B, fi,_,PySem.W.mg_of X G n0,PySem.W.mg_of X G n1, Zs4 xl xa xb xc,Ze1 xl xd xe,((mro4 xl).imp λ_ h=>(h.1,h.2.1),xd,xf,xg,xh),((mro4 xl).imp λ_ h=>(h.1,h.2.1),xf,xg,xh,xi,w0,w1,xj),(w2,w3,w4,xk),(xm,xn,xh,xo),y,yv, λP w mg base=>Yf8 il ic Yd1 Y71 rfl rfl,Y50 (n:=1) (λs KX=>Y20 λ_=>PySem.W.binds_K KX rfl it rfl rfl rfl) rfl,Zx4 (n:=2) (λs KX=>Yp5 λ_ _=>PySem.W.binds_K KX rfl it rfl rfl rfl) rfl)
def EX.pr{K:Ae}{mg:Str->Option Uh}(X:EX K mg){P:Uk}{w:Ul}{base:Um}{c:Cfg}{n lv:Nat}(hn:c.G[n]?=some (.cls X.B))(h:2<=lv):PrgR P w K mg base c [n] lv:= .one hn X.mB (X.ok _ _ _ _) h X.b1 X.b0 X.sB
def ad{P:Uk}{w:Ul}{K:Ae}{mg:Str->Option Uh}{base:Um}{Γ:List DSp}{G:LD}{FN GN BN:LS}{lv:Nat}{x:Str}{st:Stmt}{ps N:LS}{b:Ss}{sp:DSp}(Pr:Prg P w K mg base (K,Γ,G) FN GN BN lv)(n:Nat)(T:DW K mg x st ps)(r:Rd K Γ G sp b N)(S:FnScope N ps (Z7 st):=by show(rfl,rfl,rfl,'k',rfl,'k','k'))(hc:Tc (ck0 N st FN GN BN) b (Y1 st)=true:=by decide+kernel)
  (hl:∀ds M Q Z,sp ds M Q Z->(Ug ds)=Ug ps:=by intro _ _ _ _ h;repeat (first | (let(rfl,_):=h;rfl;done) | (let(_,h):=h))) (hx:FN[n]?=some x:=by rfl):Prg P w K mg base (K,Γ.set n sp,G) FN GN BN (lv+1):=Pr.add n hx (fn0 Pr T.F S hc hl r) (na _) (mn _) T.g T.k T.b
def ad1{P:Uk}{w:Ul}{K:Ae}{mg:Str->Option Uh}{base:Um}{Γ:List DSp}{G:LD}{FN GN BN:LS}{lv:Nat}{x:Str}{st:Stmt}{ps N:LS}{b:Ss}{sp:DSp}(Pr:Prg P w K mg base (K,Γ,G) FN GN BN lv)(n:Nat)(T:DW K mg x st ps){rs:LQ}(R:PrgR P w K mg base (K,Γ,G) rs lv)(r:∀ds M Q Z,sp ds M Q Z->tss (K,Γ,G) Z b {nx:=λ_ M=>Q .non M,rt:=Q} (start0 N ds) M)(S:FnScope N ps (Z7 st):=by show(rfl,rfl,rfl,'k',rfl,'k','k'))(hc:Tc (ck1 rs N st FN GN BN) b (Y1 st)=true:=by decide+kernel)
  (hl:∀ds M Q Z,sp ds M Q Z->(Ug ds)=Ug ps:=by intro _ _ _ _ h;repeat (first | (let(rfl,_):=h;rfl;done) | (let(_,h):=h))) (hx:FN[n]?=some x:=by rfl):Prg P w K mg base (K,Γ.set n sp,G) FN GN BN (lv+1):=Pr.add n hx (fn1 Pr R T.F S hc hl r) (na _) (mn _) T.g T.k T.b
section
variable{K:Ae}{mg:Str->Option Uh}(T0:DW K mg "ways" Yh8 ["node"])(T1:DW K mg "with_ways" C5 ["node","goals"])(T2:DW K mg "walked" Zw0 ["goals","starts"])(T3:DW K mg "numbered" Z90 ["nodes","order"])(T4:DW K mg "links_among" Jl ["goals","places"])(T5:DW K mg "turned" Zs0 ["links"])(T6:DW K mg "come_to" Zi4 ["links","starts","taken"])(T7:DW K mg "set_left" Z84 ["goals","done"])(T8:DW K mg "doors_of" Za6 ["goals","together"])(T9:DW K mg "come_round" Ff ["goals","together","doors","head"])(T10:DW K mg "chosen_head" Nv ["goals","together","doors"])(T11:DW K mg "led_to_copies" Qc ["places","copies"])(T12:DW K mg "put_copies" Gw ["goals","origins","together","places"])(T13:DW K mg "doubled" Zn4 ["graph"])(T14:DW K mg "_law_cell" Y51 ["_law_script","_law_k"])(T15:DW K mg "_law_mixed" Zp4 ["_law_cell_here","_law_k"])(T16:DW K mg "_law_great" Zy0 ["_law_number"])(T17:DW K mg "_law_far" Yg7 ["_law_number","_law_k","_law_many","_law_mode"])(T18:DW K mg "_law_node" Y45 ["_law_cell_here","_law_k","_law_many","_law_mode"])(T19:DW K mg "_law_goals" Zv2 ["_law_node_here"])(T20:DW K mg "_law_order" Zw4 ["_law_raw"])(T21:DW K mg "_law_graph" Zy8 ["_law_raw"])(T22:DW K mg "_law_drawn" Zw1 ["_law_script","_law_start","_law_most"])(T23:DW K mg "_law_alike" Zy7 ["_law_found","_law_due"])(T24:DW K mg "_law_free" Y49 ["_law_graph_here","_law_one"])(T25:DW K mg "_law_is_orderly" Jd ["_law_graph_here"])(T26:DW K mg "_law_cut" Yg6 ["_law_node_here"])(T27:DW K mg "_law_is_like" Za5 ["_law_node_here","_law_old","_law_many"])(T28:DW K mg "_law_reach" Zr9 ["_law_graph_here","_law_start"])(T29:DW K mg "_law_is_made" Z74 ["_law_graph_here","_law_new","_law_origins"])(T30:DW K mg "_law_fits" Ye8 ["_law_graph_here","_law_found"])(T31:DW K mg "_law_doubled" Z97 ["_law_graph_here"])(T32:DW K mg "_law_set_counts" G1 ["_law_graph_here","_law_some"])(T33:DW K mg "_law_count" Zq1 ["_law_graph_here"])(T34:DW K mg "_law_ring_node" Ek ["_law_number","_law_k","_law_to","_law_out"])(T35:DW K mg "_law_ringed" Zf2 ["_law_script"])(X:EX K mg)
include T0 T1 T2 T3 T4 T5 T6 T7 T8 T9 T10 T11 T12 T13 T14 T15 T16 T17 T18 T19 T20 T21 T22 T23 T24 T25 T26 T27 T28 T29 T30 T31 T32 T33 T34 T35 X
theorem Yl3{P:Uk}{w:Ul}{base:Um}(T36:DW K mg "law" Cg ["_law_script"]){ch TH:Uj}(KX:K.In base)(GB:base.Ns mainGlobals mg)(BB:Bs K mg base)(hT:PySem.W.tabIn K "chosen_head"=some #v[ch,TH])(Q_MOST_NODES:∃tk,mg "MOST_NODES"=some (.int 40 tk))(hz:∀x∈BN,mg x=none):FnOk P w K mg base (CX1 P w) 44 T36.a T36.d ["_law_script"] (spF K Zn2):=by have PZ:Prg P w K mg base (K,[bot,bot,bot,bot,bot,bot,bot,bot,bot,bot,bot,bot,bot,bot,bot,bot,bot,bot,bot,bot,bot,bot,bot,bot,bot,bot,bot,bot,bot,bot,bot,bot,bot,bot,bot,bot,bot],[.cls X.J,.cls X.B,.int 40]) FN GN BN 0:=Prg.zero (all_cons T0.en (all_cons T1.en (all_cons T2.en (all_cons T3.en (all_cons T4.en (all_cons T5.en (all_cons T6.en (all_cons T7.en (all_cons T8.en (all_cons T9.en (all_cons T10.en (all_cons T11.en (all_cons T12.en (all_cons T13.en (all_cons T14.en (all_cons T15.en (all_cons T16.en (all_cons T17.en (all_cons T18.en (all_cons T19.en (all_cons T20.en (all_cons T21.en (all_cons T22.en (all_cons T23.en (all_cons T24.en (all_cons T25.en (all_cons T26.en (all_cons T27.en (all_cons T28.en (all_cons T29.en (all_cons T30.en (all_cons T31.en (all_cons T32.en (all_cons T33.en (all_cons T34.en (all_cons T35.en (all_cons T36.en (Zo6)))))))))))))))))))))))))))))))))))))) rfl (by intro sp h;erw[Ak,Hf,or_false,or_self] at h;show h) (λg x d h1 h2=>match g,h1,h2 with | 0,h1,h2=>by cases h1;cases h2;show(.ref _,.ref _,X.gJ,rfl,λw _=>N6.mpr rfl) | 1,h1,h2=>by cases h1;cases h2;show(.ref _,.ref _,X.gB,rfl,λw _=>N6.mpr rfl) | 2,h1,h2=>by cases h1;cases h2;let(tk,e):=Q_MOST_NODES;show(.int 40,_,e,(tk,rfl),λw _=>Z9.mpr rfl) | n+3,h1,h2=>by cases h2) hz;have P0:=PZ.up (show 0<=2 by decide);have P1:=ad P0 0 T0 (sp:=Eb) Yg9;have P2:=ad P1 1 T1 (sp:=Fe) Yq6;have P3:=ad P2 2 T2 (sp:=Tz) Zr6;have P4:=ad P3 3 T3 (sp:=Vb) (Z79 rfl rfl);have P5:=ad P4 4 T4 (sp:=Js) Y80;have P6:=ad P5 5 T5 (sp:=Jb) Zs5;have P7:=ad P6 6 T6 (sp:=Ee) Yg3;have P8:Prg P w K mg base (K,[_,_,_,_,_,_,_,_,_,_,_,_,_,_,_,_,_,_,_,_,_,_,_,_,_,_,_,_,_,_,_,_,_,_,_,_,_],_) FN GN BN _:=ad P7 7 T7 (sp:=Zf5) (Ys9 rfl rfl rfl rfl);have P9:=ad P8 8 T8 (sp:=Nq) Y98;have P10:=ad P9 9 T9 (sp:=Sc) (Y69 rfl rfl);have F10:=fnC P10 KX GB BB hT T10.g T10.F rfl rfl (rfl,rfl,rfl,'k',rfl,'k','k') 'k' 'k' (n:=9) rfl rfl;have P11:=P10.add 10 (x:="chosen_head") rfl F10 (na _) (by omega) T10.g T10.k T10.b;have P12:=ad P11 11 T11 (sp:=Zz6) Ys0;have P13:=ad P12 12 T12 (sp:=Zt8) (Yu5 rfl);have P14:=ad1 P13 13 T13 (X.pr (n:=1) rfl 'd') (sp:=Wx X.B) (Zm7 rfl rfl rfl rfl rfl rfl rfl rfl rfl rfl rfl);have P15:=ad P14 14 T14 (sp:=Ou) Ya1;have P16:Prg P w K mg base (K,[_,_,_,_,_,_,_,_,_,_,_,_,_,_,_,_,_,_,_,_,_,_,_,_,_,_,_,_,_,_,_,_,_,_,_,_,_],_) FN GN BN _:=ad P15 15 T15 (sp:=Vt) Zv3;have P17:=ad P16 16 T16 (sp:=Eu) Zq3;have P18:=ad P17 17 T17 (sp:=Ye0) Yo2;have P19:=ad P18 18 T18 (sp:=Zj5) (Yd8 rfl rfl rfl);have P20:=ad P19 19 T19 (sp:=Wc) Zz8;have P21:=ad P20 20 T20 (sp:=J9) (Zx6 rfl);have P22:=ad P21 21 T21 (sp:=Sh) (Zw2 rfl);have P23:=ad P22 22 T22 (sp:=B0) (Zr2 rfl rfl rfl rfl);have P24_0:=ad P23 23 T23 (sp:=(X1 0)) Ze8;have P24_1:=ad P24_0 23 T23 (sp:=(X1 1)) (Qt rfl);have P24_2:=ad P24_1 23 T23 (sp:=(X1 2)) (Qt rfl);have P24:Prg P w K mg base (K,[_,_,_,_,_,_,_,_,_,_,_,_,_,_,_,_,_,_,_,_,_,_,_,_,_,_,_,_,_,_,_,_,_,_,_,_,_],_) FN GN BN _:=ad P24_2 23 T23 (sp:=(X1 3)) (Qt rfl);have P25:=ad P24 24 T24 (sp:=Zo2) (Yf6 rfl);have P26:=ad P25 25 T25 (sp:=Xo) (Jz rfl rfl);have P27:=ad P26 26 T26 (sp:=Ye2) Yl7;have P28:=ad P27 27 T27 (sp:=Zo7) (Z56 rfl rfl);have P29:=ad P28 28 T28 (sp:=Cj) (Zy2 rfl);have P30:=ad P29 29 T29 (sp:=Zh6) (Za4 rfl rfl rfl rfl);have P31:=ad P30 30 T30 (sp:=Z13) (Y44 rfl rfl rfl);have P32:Prg P w K mg base (K,[_,_,_,_,_,_,_,_,_,_,_,_,_,_,_,_,_,_,_,_,_,_,_,_,_,_,_,_,_,_,_,_,_,_,_,_,_],_) FN GN BN _:=ad P31 31 T31 (sp:=Zx7) (Z71 X.co rfl rfl);have P33:=ad P32 32 T32 (sp:=Zn0) (Jn rfl);have P34:=ad P33 33 T33 (sp:=Cq) (Zt9 rfl rfl);have P35:=ad P34 34 T34 (sp:=Nm) Gr;have P36:=ad P35 35 T35 (sp:=Q6) (Zd8 rfl rfl rfl rfl);show fn0 P36 T36.F Yo5 Yu2 (sp:=Zn2) (by rintro _ _ _ _ ⟨_,rfl,_⟩;rfl) (Yt9 rfl rfl rfl rfl rfl rfl rfl rfl rfl rfl)
theorem Ya3{l:PySem.W.OpenLaw}{w:Ul}{fa f:Uj}{h:Um}{oc kV dc pm cd ct:Uh}{od an:Option Uj}{sl:Array (Option Uh)}{ch TH:Uj}(hT:PySem.W.tabIn K "chosen_head"=some #v[ch,TH])(hfa:mg "law"=↑fa)(X0:K.In h)(G:h.Ns mainGlobals mg)
  (a:Ue K mainGlobals "law"=some (↑f)) (l0:K.lookup f=some (oc,od,.func (Kv "law" "law" (Xj Cg) (Y1 Cg) (Z7 Cg) .none kV dc pm an cd ct),sl)) (c:Mb K cd "law"=true) (k:Hm K (.ref f)=true) {tq0:Tok} (q0:Ue K mainGlobals "MOST_NODES"=some (some (.int 40 tq0))) (hz:∀x∈BN,Ue K mainGlobals x=some none)
  :∃fd:FuncData,(∀(s:Ui) (v:Uh),BindsTo s fd ([v],[]) [#v["_law_script",v]])/\∀base:Um,K.In base->base.Ns mainGlobals mg->Bs K mg base->FnOk l.prog w K mg base (CX1 l.prog w) 44 fa fd ["_law_script"] (spF K Zn2):=by
 have e2:=hfa.symm.trans (PySem.W.mg_of X0 G a);cases e2;show(_,λs v=> .of_eq rfl,λbase kx gb bb=>Yl3 T0 T1 T2 T3 T4 T5 T6 T7 T8 T9 T10 T11 T12 T13 T14 T15 T16 T17 T18 T19 T20 T21 T22 T23 T24 T25 T26 T27 T28 T29 T30 T31 T32 T33 T34 T35 X (DW.of X0 G a l0 c k) kx gb bb hT (_,PySem.W.mg_of X0 G q0) λx hx=>PySem.W.mg_none_of X0 G (hz x hx))
end
end K41
open PySem PySem.W PyProof.Rows
set_option maxRecDepth 100000 in
theorem PySem.Challenge.cw_unjump_k41_doubled_holds : PySem.Challenge.rw_unjump_k41_doubled.Holds := by
 w_on;show holds_law Hand.wS λsaid=>?_;show holds_open (q:=Hand.qH) (loose:=Hand.lH) (Xt:=λs=>xlAt Hand.qH [] s&&recOk [] s) (XP:=XL Hand.qH []) (Yf:=Hook.obs (kmHook Hand.KH Hand.aH Hand.eH [107])) (Ya:=Hook.val (kmHook Hand.KH Hand.aH Hand.eH [107])) (YP:=Hook.says (kmHook Hand.KH Hand.aH Hand.eH [107])) (N:=3310) Hand.hlH (Hook.of _) (Hook.keeps _) (λs e=>xl_of s (Bool.and_eq_true_iff.mp e).1) XL.keeps (by rfl) (by rfl) (by rfl) (λs e=>recFacts_of (Bool.and_eq_true_iff.mp e).2) (by rfl) (by first | assumption | decide+kernel) 'k' (rfl,rfl,rfl,rfl,rfl,'k') ?hw ?hc;(case hw=>w_witness2)
 k_fill
 refine' U.Zd6 (l:=PySem.Challenge.rw_unjump_k41_doubled) (k:=44) (x:="_law_script") (c0:=111) (T:=107) rfl rfl (rfl,'d','d') (λw h Y=>PySem.W.km_in_of Y) (λw h Y=>PySem.W.km_tabs_of Y _ Aw) ?TT ?F
 case TT=>show λw h KX=>(by kernel_rfl,by kernel_rfl,by kernel_rfl)
 case F=>
  intro w mg fa h KX G hmg
  refine' K41.Ya3 'x' 'x' 'x' 'x' 'x' 'x' 'x' 'x' 'x' 'x' 'x' 'x' 'x' 'x' 'x' 'x' 'x' 'x' 'x' 'x' 'x' 'x' 'x' 'x' 'x' 'x' 'x' 'x' 'x' 'x' 'x' 'x' 'x' 'x' 'x' 'x' (.of KX G _ _ _ _ _ _ _ _ _ _ _ _ _ _ _ _ _ _ _ _ _ _ _ _ _ _ _) (ch:=111) (TH:=107) ?hT hmg KX G _ _ _ _ _ (U.all_cons _ (U.all_cons _ (U.all_cons _ (U.all_cons _ (U.all_cons _ (U.all_cons _ (U.all_cons _ (U.all_cons _ (U.all_cons _ (U.all_cons _ (U.all_cons _ (U.all_cons _ (U.all_cons _ (U.all_cons _ (U.Zo6)))))))))))))))
  (case hT=>kernel_rfl)
  all_goals (try k_is)
  all_goals kernel_rfl
