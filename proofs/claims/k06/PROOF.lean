import PyProof.Rows.All
import Wide.All
import OpenK.AllK
import Wide.FinOn
import Lean
import PyProof.EqAt
import PyProof.EqKinds
import PyProof.TupleCall
import PySem.Challenge.RW_leastasked_k06_whole_goings_walked
set_option Elab.async false
set_option linter.all false
set_option maxRecDepth 100000
namespace L2
open PySem PySem.Spec PyProof.Rows
/-! ### the text by places -/
/-- the j-th statement of a class's body -/
def inClass (s : Stmt) (j : Nat) : Stmt := match s with
  | .ClassDef _ _ _ body _ _ _ _ _ _ _ => body.getD j (.Pass ⟨0, 0, 0, 0⟩)
  | _ => .Pass ⟨0, 0, 0, 0⟩
def defArgs (s : Stmt) : Arguments := match s with
  | .FunctionDef _ a _ _ _ _ _ _ _ _ => a
  | _ => { posonlyargs := [], args := [], vararg := none, kwonlyargs := [], kw_defaults := [], kwarg := none, defaults := [] }
def defBody (s : Stmt) : List Stmt := match s with
  | .FunctionDef _ _ b _ _ _ _ _ _ _ => b
  | _ => []
def defScope (s : Stmt) : Scope := match s with
  | .FunctionDef _ _ _ _ _ _ sc _ _ _ => sc
  | _ => { kind := .function, names := [], isGenerator := false, isCoroutine := false }
end L2

namespace Lk
open PySem PySem.W L2
/-! ### the text by places, what the top leaves behind, and that it leaves that -/
noncomputable section
def top (i : Nat) : Stmt := PySem.Challenge.pw_leastasked_k06_whole_goings_walked.main.body.getD i (.Pass ⟨0, 0, 0, 0⟩)
def en (P : Params) (k : String) (t : Nat) (v : Value) : DictEntry := ⟨PyData.keyHash P (Str.ofString k), .str (Str.ofString k) t, v⟩
abbrev PO := Params → Obj
noncomputable def cO (n q : Str) (t : Nat) (L a b c d : Int) (r : Addr) (g : Bool) (r2 : Addr) (i : Nat) (u v x y : Value) : Obj := { cls := .type "code", data := .fields #[.str n t, .str q (t + 1), .str "/claim/cut.py" (t + 2), .int L 0, .int a 0, .int b 0, .int c 0, .int d 0, .ref r, .bool g, .int 181 0, .ref r2, u, v, x, y, .int i 0, .int L 0, .str "/claim/cut.py" (i + 1)] }
noncomputable def cR (n q : Str) (t : Nat) (L a b c d : Int) (r : Addr) (i : Nat) : Obj := cO n q t L a b c d r true (r + 1) i .none (.ref (r + 2)) (.ref (r + 3)) (.ref (r + 4))
noncomputable def fO (n q : Str) (s : Stmt) (d : Value) (m : Str) (t : Nat) (c : Addr) : Obj := { cls := .type "function", data := .func { name := n, qualname := q, params := defArgs s, body := .stmts (defBody s), scope := defScope s, globals := 3, closure := [], defaults := d, kwdefaults := .none, pyModule := .str m t, code := .ref c } }
noncomputable def gO (n q : Str) (s : Stmt) : Obj := { cls := .none, data := .func { name := n, qualname := q, params := defArgs s, body := .stmts (defBody s), scope := defScope s, globals := 0, closure := [], defaults := .none, kwdefaults := .none } }
noncomputable def tO (xs : Array Value) : Obj := { cls := .type "tuple", data := .seq xs }
noncomputable def dO (es : Array DictEntry) (n : Nat) : Obj := { cls := .type "dict", data := .dict es n }
abbrev PT := Params → BT
noncomputable def Nn (o : PO) (l r : PT) : PT := fun P => .node (o P) (l P) (r P)
noncomputable def Lf (o : PO) : PT := fun P => .node (o P) .nil .nil
noncomputable def Ze : PT := fun _ => .nil
def o_43:PO:=fun _=>tO #[]
def o_44:PO:=fun _=>{ cls := .none, data := .fields #[] }
def o_45:PO:=fun _=>cO "<module>" "<module>" 182 1 0 0 0 0 11 false 12 185 .none .none .none .none
def o_46:PO:=fun _=>{ cls := .type "frame", slots := #[some (.ref 13), some (.ref 3), some (.ref 3), none, some (.str "__main__" 164), none, some (.ref 0)] }
def o_79:PO:=fun P=>dO #[en P "__name__" 165 (.str "leastasked.errors" 187), en P "__doc__" 166 .none, en P "__package__" 167 .none, en P "__loader__" 168 (.builtin "__main__.__loader__#opaque"), en P "__spec__" 169 .none, en P "__annotations__" 170 (.ref 6), en P "__builtins__" 171 (.ref 4), en P "__file__" 173 (.str "/claim/cut.py" 172), en P "__cached__" 174 .none, en P "ShelfError" 206 (.ref 24), en P "NoName" 222 (.ref 37), en P "NoNumber" 238 (.ref 49)] 12
def o_51:PO:=fun _=>tO #[.type "ValueError"]
def o_59:PO:=fun P=>dO #[en P "__module__" 196 (.str "leastasked.errors" 187), en P "__firstlineno__" 200 (.int 2 199), en P "__static_attributes__" 201 (.ref 22), en P "__weakref__" 203 (.ref 25), en P "__doc__" 204 .none] 3
def o_78:PO:=fun _=>{ cls := .type "builtin_function_or_method", data := .fields #[.builtin "object.__init_subclass__", .ref 37] }
def o_93:PO:=fun _=>{ cls := .type "builtin_function_or_method", data := .fields #[.builtin "object.__init_subclass__", .ref 49] }
def o_63:PO:=fun _=>{ cls := .type "builtin_function_or_method", data := .fields #[.builtin "object.__init_subclass__", .ref 24] }
def o_53:PO:=fun P=>dO #[en P "__module__" 196 (.str "leastasked.errors" 187), en P "__qualname__" 198 (.str "ShelfError" 197), en P "__firstlineno__" 200 (.int 2 199), en P "__static_attributes__" 201 (.ref 22)] 4
def o_72:PO:=fun _=>cO "NoName" "NoName" 209 4 0 0 0 0 31 false 32 212 .none .none .none .none
def o_91:PO:=fun _=>{ cls := .type "type", data := .cls { name := "NoNumber", bases := [.ref 24], mro := [.ref 49, .ref 24, .type "ValueError", .type "Exception", .type "BaseException", .type "object"], ns := 48, qualname := "NoNumber" }, slots := #[some (.ref 40), none, some (.str "NoNumber" 223), some (.str "NoNumber" 231), some (.builtin "ValueError.__new__"), some (.bool true)] }
def o_61:PO:=fun _=>{ cls := .type "getset_descriptor", data := .fields #[.str "__weakref__" 202, .ref 24, .builtin "ExceptionGroup.__weakref__", .none] }
def o_83:PO:=fun _=>{ cls := .type "builtin_function_or_method", data := .fields #[.builtin "type.__prepare__", .type "type"] }
def o_57:PO:=fun _=>{ cls := .type "frame", slots := #[some (.ref 20), some (.ref 3), some (.ref 17), none, some (.str "leastasked.errors" 187), none, some (.ref 0)] }
def o_76:PO:=fun _=>{ cls := .type "type", data := .cls { name := "NoName", bases := [.ref 24], mro := [.ref 37, .ref 24, .type "ValueError", .type "Exception", .type "BaseException", .type "object"], ns := 36, qualname := "NoName" }, slots := #[some (.ref 28), none, some (.str "NoName" 207), some (.str "NoName" 215), some (.builtin "ValueError.__new__"), some (.bool true)] }
def o_87:PO:=fun _=>cO "NoNumber" "NoNumber" 225 6 0 0 0 0 43 false 44 228 .none .none .none .none
def o_90:PO:=fun P=>dO #[en P "__module__" 230 (.str "leastasked.errors" 187), en P "__firstlineno__" 234 (.int 6 233), en P "__static_attributes__" 235 (.ref 47), en P "__doc__" 236 .none] 2
def o_81:PO:=fun _=>{ cls := .type "type", data := .cls { name := "ShelfError", bases := [.type "ValueError"], mro := [.ref 24, .type "ValueError", .type "Exception", .type "BaseException", .type "object"], ns := 23, qualname := "ShelfError", subclasses := [.ref 37, .ref 49] }, slots := #[some (.ref 15), none, some (.str "ShelfError" 189), some (.str "ShelfError" 197), some (.builtin "ValueError.__new__"), some (.bool true)] }
def o_82:PO:=fun _=>tO #[.ref 24]
def o_80:PO:=fun _=>{ cls := .none, data := .fields #[.int 2 0, .int 0 0, .ref 20, .int 4 0, .int 0 0, .ref 33, .int 6 0, .int 0 0, .ref 45] }
def o_56:PO:=fun _=>cO "ShelfError" "ShelfError" 191 2 0 0 0 0 18 false 19 194 .none .none .none .none
def o_75:PO:=fun P=>dO #[en P "__module__" 214 (.str "leastasked.errors" 187), en P "__firstlineno__" 218 (.int 4 217), en P "__static_attributes__" 219 (.ref 35), en P "__doc__" 220 .none] 2
def o_73:PO:=fun _=>{ cls := .type "frame", slots := #[some (.ref 33), some (.ref 3), some (.ref 30), none, some (.str "leastasked.errors" 187), none, some (.ref 0)] }
def o_92:PO:=fun _=>{ cls := .type "super", data := .fields #[.ref 49, .ref 49, .ref 49] }
def o_62:PO:=fun _=>{ cls := .type "super", data := .fields #[.ref 24, .ref 24, .ref 24] }
def o_84:PO:=fun P=>dO #[en P "__module__" 230 (.str "leastasked.errors" 187), en P "__qualname__" 232 (.str "NoNumber" 231), en P "__firstlineno__" 234 (.int 6 233), en P "__static_attributes__" 235 (.ref 47)] 4
def o_77:PO:=fun _=>{ cls := .type "super", data := .fields #[.ref 37, .ref 37, .ref 37] }
def o_69:PO:=fun P=>dO #[en P "__module__" 214 (.str "leastasked.errors" 187), en P "__qualname__" 216 (.str "NoName" 215), en P "__firstlineno__" 218 (.int 4 217), en P "__static_attributes__" 219 (.ref 35)] 4
def o_88:PO:=fun _=>{ cls := .type "frame", slots := #[some (.ref 45), some (.ref 3), some (.ref 42), none, some (.str "leastasked.errors" 187), none, some (.ref 0)] }
def o_149:PO:=fun P=>dO #[en P "__name__" 165 (.str "leastasked.book" 330), en P "__doc__" 166 .none, en P "__package__" 167 .none, en P "__loader__" 168 (.builtin "__main__.__loader__#opaque"), en P "__spec__" 169 .none, en P "__annotations__" 170 (.ref 6), en P "__builtins__" 171 (.ref 4), en P "__file__" 173 (.str "/claim/cut.py" 172), en P "__cached__" 174 .none, en P "ShelfError" 206 (.ref 24), en P "NoName" 222 (.ref 37), en P "NoNumber" 238 (.ref 49), en P "NoRule" 254 (.ref 61), en P "is_whole_within" 265 (.ref 70), en P "is_name" 271 (.ref 75), en P "check_name" 278 (.ref 82), en P "check_weight" 285 (.ref 89), en P "check_steps" 292 (.ref 96), en P "check_places" 299 (.ref 103), en P "check_rule" 307 (.ref 110), en P "ageings" 318 (.ref 117), en P "aged" 329 (.ref 124)] 22
def o_108:PO:=fun _=>{ cls := .type "builtin_function_or_method", data := .fields #[.builtin "object.__init_subclass__", .ref 61] }
def o_140:PO:=fun _=>cR "check_steps" "check_steps" 286 25 1 0 0 3 90 290
def o_148:PO:=fun _=>fO "check_places" "check_places" (top 11) .none "leastasked.checks" 255 102
def o_132:PO:=fun _=>gO "check_weight" "check_weight" (top 9)
def o_144:PO:=fun _=>tO #[.str "places" 296]
def o_162:PO:=fun _=>gO "ageings" "ageings" (top 14)
def o_120:PO:=fun _=>fO "is_name" "is_name" (top 7) .none "leastasked.checks" 255 74
def o_170:PO:=fun _=>cR "aged" "aged" 319 39 3 0 0 3 118 327
def o_126:PO:=fun _=>cR "check_name" "check_name" 272 19 1 0 0 3 76 276
def o_160:PO:=fun _=>tO #[.str "span" 313, .str "since" 314, .str "upto" 315]
def o_118:PO:=fun _=>gO "is_name" "is_name" (top 7)
def o_102:PO:=fun _=>cO "NoRule" "NoRule" 241 8 0 0 0 0 55 false 56 244 .none .none .none .none
def o_134:PO:=fun _=>fO "check_weight" "check_weight" (top 9) .none "leastasked.checks" 255 88
def o_114:PO:=fun _=>cR "is_whole_within" "is_whole_within" 257 11 3 0 0 3 64 263
def o_146:PO:=fun _=>gO "check_places" "check_places" (top 11)
def o_130:PO:=fun _=>tO #[.str "weight" 282]
def o_164:PO:=fun _=>fO "ageings" "ageings" (top 14) .none "leastasked.rules" 308 116
def o_156:PO:=fun _=>cR "check_rule" "check_rule" 300 31 2 0 0 3 104 305
def o_106:PO:=fun _=>{ cls := .type "type", data := .cls { name := "NoRule", bases := [.ref 24], mro := [.ref 61, .ref 24, .type "ValueError", .type "Exception", .type "BaseException", .type "object"], ns := 60, qualname := "NoRule" }, slots := #[some (.ref 52), none, some (.str "NoRule" 239), some (.str "NoRule" 247), some (.builtin "ValueError.__new__"), some (.bool true)] }
def o_141:PO:=fun _=>fO "check_steps" "check_steps" (top 10) .none "leastasked.checks" 255 95
def o_125:PO:=fun _=>gO "check_name" "check_name" (top 8)
def o_96:PO:=fun _=>{ cls := .type "type", data := .cls { name := "ShelfError", bases := [.type "ValueError"], mro := [.ref 24, .type "ValueError", .type "Exception", .type "BaseException", .type "object"], ns := 23, qualname := "ShelfError", subclasses := [.ref 37, .ref 49, .ref 61] }, slots := #[some (.ref 15), none, some (.str "ShelfError" 189), some (.str "ShelfError" 197), some (.builtin "ValueError.__new__"), some (.bool true)] }
def o_133:PO:=fun _=>cR "check_weight" "check_weight" 279 22 1 0 0 3 83 283
def o_167:PO:=fun _=>tO #[.str "count" 322, .str "part" 323, .str "times" 324, .str "needed" 325, .str "step" 326]
def o_150:PO:=fun _=>{ cls := .none, data := .fields #[.int 2 0, .int 0 0, .ref 20, .int 4 0, .int 0 0, .ref 33, .int 6 0, .int 0 0, .ref 45, .int 8 0, .int 0 0, .ref 57, .int 11 0, .int 0 0, .ref 69, .int 15 0, .int 0 0, .ref 74, .int 19 0, .int 0 0, .ref 81, .int 22 0, .int 0 0, .ref 88, .int 25 0, .int 0 0, .ref 95, .int 28 0, .int 0 0, .ref 102, .int 31 0, .int 0 0, .ref 109, .int 37 0, .int 0 0, .ref 116, .int 39 0, .int 0 0, .ref 123] }
def o_113:PO:=fun _=>gO "is_whole_within" "is_whole_within" (top 6)
def o_163:PO:=fun _=>cR "ageings" "ageings" 310 37 3 0 0 3 111 316
def o_155:PO:=fun _=>gO "check_rule" "check_rule" (top 12)
def o_105:PO:=fun P=>dO #[en P "__module__" 246 (.str "leastasked.errors" 187), en P "__firstlineno__" 250 (.int 8 249), en P "__static_attributes__" 251 (.ref 59), en P "__doc__" 252 .none] 2
def o_137:PO:=fun _=>tO #[.str "steps" 289]
def o_171:PO:=fun _=>fO "aged" "aged" (top 15) .none "leastasked.rules" 308 123
def o_111:PO:=fun _=>tO #[.str "value" 260, .str "least" 261, .str "most" 262]
def o_127:PO:=fun _=>fO "check_name" "check_name" (top 8) .none "leastasked.checks" 255 81
def o_119:PO:=fun _=>cO "is_name" "is_name" 266 15 1 0 0 3 71 true 72 269 .none .none .none (.ref 73)
def o_153:PO:=fun _=>tO #[.str "span" 303, .str "part" 304]
def o_103:PO:=fun _=>{ cls := .type "frame", slots := #[some (.ref 57), some (.ref 3), some (.ref 54), none, some (.str "leastasked.errors" 187), none, some (.ref 0)] }
def o_169:PO:=fun _=>gO "aged" "aged" (top 15)
def o_115:PO:=fun _=>fO "is_whole_within" "is_whole_within" (top 6) .none "leastasked.checks" 255 69
def o_147:PO:=fun _=>cR "check_places" "check_places" 293 28 1 0 0 3 97 297
def o_99:PO:=fun P=>dO #[en P "__module__" 246 (.str "leastasked.errors" 187), en P "__qualname__" 248 (.str "NoRule" 247), en P "__firstlineno__" 250 (.int 8 249), en P "__static_attributes__" 251 (.ref 59)] 4
def o_123:PO:=fun _=>tO #[.str "name" 275]
def o_157:PO:=fun _=>fO "check_rule" "check_rule" (top 12) .none "leastasked.checks" 255 109
def o_107:PO:=fun _=>{ cls := .type "super", data := .fields #[.ref 61, .ref 61, .ref 61] }
def o_139:PO:=fun _=>gO "check_steps" "check_steps" (top 10)
def o_397:PO:=fun P=>dO #[en P "__name__" 165 (.str "leastasked.shelf" 503), en P "__doc__" 166 .none, en P "__package__" 167 .none, en P "__loader__" 168 (.builtin "__main__.__loader__#opaque"), en P "__spec__" 169 .none, en P "__annotations__" 170 (.ref 6), en P "__builtins__" 171 (.ref 4), en P "__file__" 173 (.str "/claim/cut.py" 172), en P "__cached__" 174 .none, en P "ShelfError" 206 (.ref 24), en P "NoName" 222 (.ref 37), en P "NoNumber" 238 (.ref 49), en P "NoRule" 254 (.ref 61), en P "is_whole_within" 265 (.ref 70), en P "is_name" 271 (.ref 75), en P "check_name" 278 (.ref 82), en P "check_weight" 285 (.ref 89), en P "check_steps" 292 (.ref 96), en P "check_places" 299 (.ref 103), en P "check_rule" 307 (.ref 110), en P "ageings" 318 (.ref 117), en P "aged" 329 (.ref 124), en P "Book" 502 (.ref 254)] 23
def o_176:PO:=fun P=>dO #[en P "__module__" 339 (.str "leastasked.book" 330), en P "__qualname__" 341 (.str "Book" 340), en P "__firstlineno__" 343 (.int 45 342), en P "__init__" 352 (.ref 138), en P "ask" 363 (.ref 146), en P "rest" 371 (.ref 153), en P "drop" 379 (.ref 160), en P "time_now" 386 (.ref 167), en P "deeds_done" 393 (.ref 174), en P "count_of" 401 (.ref 181), en P "last_of" 409 (.ref 188), en P "names" 416 (.ref 195), en P "in_order" 424 (.ref 202), en P "strength" 432 (.ref 209), en P "begin_ask" 441 (.ref 216), en P "grow" 450 (.ref 223), en P "begin_drop" 458 (.ref 230), en P "pass_time" 467 (.ref 237), en P "age_counts" 479 (.ref 244), en P "fade" 488 (.ref 251), en P "__static_attributes__" 495 (.ref 252)] 21
def o_304:PO:=fun _=>{ cls := .type "getset_descriptor", data := .fields #[.str "__dict__" 496, .ref 254, .builtin "function.__dict__", .builtin "function.__dict__#set"] }
def o_240:PO:=fun _=>tO #[.str "self" 413]
def o_208:PO:=fun _=>cR "drop" "Book.drop" 372 67 2 0 0 3 154 377
def o_272:PO:=fun _=>fO "grow" "Book.grow" (inClass (top 17) 12) .none "leastasked.book" 330 222
def o_256:PO:=fun _=>gO "strength" "Book.strength" (inClass (top 17) 10)
def o_216:PO:=fun _=>fO "time_now" "Book.time_now" (inClass (top 17) 4) .none "leastasked.book" 330 166
def o_200:PO:=fun _=>gO "rest" "Book.rest" (inClass (top 17) 2)
def o_264:PO:=fun _=>cR "begin_ask" "Book.begin_ask" 433 94 3 0 0 3 210 439
def o_296:PO:=fun _=>tO #[.str "self" 483, .str "name" 484, .str "last" 485]
def o_180:PO:=fun _=>{ cls := .type "frame", slots := #[some (.ref 130), some (.ref 3), some (.ref 127), none, some (.str "leastasked.book" 330), none, some (.ref 0)] }
def o_244:PO:=fun _=>fO "names" "Book.names" (inClass (top 17) 8) .none "leastasked.book" 330 194
def o_212:PO:=fun _=>tO #[.str "self" 383]
def o_228:PO:=fun _=>gO "count_of" "Book.count_of" (inClass (top 17) 6)
def o_292:PO:=fun _=>cR "age_counts" "Book.age_counts" 468 115 2 0 0 3 238 477
def o_188:PO:=fun _=>tO #[.int 1 353]
def o_284:PO:=fun _=>gO "pass_time" "Book.pass_time" (inClass (top 17) 14)
def o_268:PO:=fun _=>tO #[.str "self" 445, .str "name" 446, .str "weight" 447]
def o_236:PO:=fun _=>cR "last_of" "Book.last_of" 402 81 2 0 0 3 182 407
def o_300:PO:=fun _=>fO "fade" "Book.fade" (inClass (top 17) 16) .none "leastasked.book" 330 250
def o_178:PO:=fun _=>{ cls := .none, data := .fields #[.int 47 0, .int 4 0, .ref 137, .int 56 0, .int 4 0, .ref 145, .int 62 0, .int 4 0, .ref 152, .int 67 0, .int 4 0, .ref 159, .int 71 0, .int 4 0, .ref 166, .int 74 0, .int 4 0, .ref 173, .int 77 0, .int 4 0, .ref 180, .int 81 0, .int 4 0, .ref 187, .int 85 0, .int 4 0, .ref 194, .int 88 0, .int 4 0, .ref 201, .int 91 0, .int 4 0, .ref 208, .int 94 0, .int 4 0, .ref 215, .int 100 0, .int 4 0, .ref 222, .int 104 0, .int 4 0, .ref 229, .int 108 0, .int 4 0, .ref 236, .int 115 0, .int 4 0, .ref 243, .int 128 0, .int 4 0, .ref 250] }
def o_306:PO:=fun _=>{ cls := .type "super", data := .fields #[.ref 254, .ref 254, .ref 254] }
def o_242:PO:=fun _=>gO "names" "Book.names" (inClass (top 17) 8)
def o_194:PO:=fun _=>cR "ask" "Book.ask" 354 56 3 0 0 3 140 361
def o_258:PO:=fun _=>fO "strength" "Book.strength" (inClass (top 17) 10) .none "leastasked.book" 330 208
def o_226:PO:=fun _=>tO #[.str "self" 397, .str "name" 398]
def o_186:PO:=fun _=>cR "__init__" "Book.__init__" 344 47 3 0 0 3 132 350
def o_250:PO:=fun _=>cR "in_order" "Book.in_order" 417 88 2 0 0 3 196 422
def o_282:PO:=fun _=>tO #[.str "self" 462, .str "steps" 463, .str "times" 464]
def o_202:PO:=fun _=>fO "rest" "Book.rest" (inClass (top 17) 2) .none "leastasked.book" 330 152
def o_298:PO:=fun _=>gO "fade" "Book.fade" (inClass (top 17) 16)
def o_214:PO:=fun _=>gO "time_now" "Book.time_now" (inClass (top 17) 4)
def o_278:PO:=fun _=>cR "begin_drop" "Book.begin_drop" 451 104 2 0 0 3 224 456
def o_198:PO:=fun _=>tO #[.str "self" 367, .str "steps" 368]
def o_230:PO:=fun _=>fO "count_of" "Book.count_of" (inClass (top 17) 6) .none "leastasked.book" 330 180
def o_254:PO:=fun _=>tO #[.str "self" 428, .str "name" 429]
def o_222:PO:=fun _=>cR "deeds_done" "Book.deeds_done" 387 74 1 0 0 3 168 391
def o_286:PO:=fun _=>fO "pass_time" "Book.pass_time" (inClass (top 17) 14) .none "leastasked.book" 330 236
def o_270:PO:=fun _=>gO "grow" "Book.grow" (inClass (top 17) 12)
def o_302:PO:=fun P=>dO #[en P "__module__" 339 (.str "leastasked.book" 330), en P "__firstlineno__" 343 (.int 45 342), en P "__init__" 352 (.ref 138), en P "ask" 363 (.ref 146), en P "rest" 371 (.ref 153), en P "drop" 379 (.ref 160), en P "time_now" 386 (.ref 167), en P "deeds_done" 393 (.ref 174), en P "count_of" 401 (.ref 181), en P "last_of" 409 (.ref 188), en P "names" 416 (.ref 195), en P "in_order" 424 (.ref 202), en P "strength" 432 (.ref 209), en P "begin_ask" 441 (.ref 216), en P "grow" 450 (.ref 223), en P "begin_drop" 458 (.ref 230), en P "pass_time" 467 (.ref 237), en P "age_counts" 479 (.ref 244), en P "fade" 488 (.ref 251), en P "__static_attributes__" 495 (.ref 252), en P "__dict__" 497 (.ref 255), en P "__weakref__" 499 (.ref 256), en P "__doc__" 500 .none] 4
def o_305:PO:=fun _=>{ cls := .type "getset_descriptor", data := .fields #[.str "__weakref__" 498, .ref 254, .builtin "ExceptionGroup.__weakref__", .none] }
def o_209:PO:=fun _=>fO "drop" "Book.drop" (inClass (top 17) 3) .none "leastasked.book" 330 159
def o_193:PO:=fun _=>gO "ask" "Book.ask" (inClass (top 17) 1)
def o_257:PO:=fun _=>cR "strength" "Book.strength" 425 91 2 0 0 3 203 430
def o_289:PO:=fun _=>tO #[.str "self" 471, .str "times" 472, .str "faded" 473, .str "name" 474, .str "count" 475, .str "last" 476]
def o_185:PO:=fun _=>gO "__init__" "Book.__init__" (inClass (top 17) 0)
def o_249:PO:=fun _=>gO "in_order" "Book.in_order" (inClass (top 17) 9)
def o_201:PO:=fun _=>cR "rest" "Book.rest" 364 62 2 0 0 3 147 369
def o_265:PO:=fun _=>fO "begin_ask" "Book.begin_ask" (inClass (top 17) 11) .none "leastasked.book" 330 215
def o_233:PO:=fun _=>tO #[.str "self" 405, .str "name" 406]
def o_173:PO:=fun _=>{ cls := .none, data := .fields #[.int 2 0, .int 0 0, .ref 20, .int 4 0, .int 0 0, .ref 33, .int 6 0, .int 0 0, .ref 45, .int 8 0, .int 0 0, .ref 57, .int 11 0, .int 0 0, .ref 69, .int 15 0, .int 0 0, .ref 74, .int 19 0, .int 0 0, .ref 81, .int 22 0, .int 0 0, .ref 88, .int 25 0, .int 0 0, .ref 95, .int 28 0, .int 0 0, .ref 102, .int 31 0, .int 0 0, .ref 109, .int 37 0, .int 0 0, .ref 116, .int 39 0, .int 0 0, .ref 123, .int 45 0, .int 0 0, .ref 130] }
def o_277:PO:=fun _=>gO "begin_drop" "Book.begin_drop" (inClass (top 17) 13)
def o_261:PO:=fun _=>tO #[.str "self" 436, .str "name" 437, .str "weight" 438]
def o_229:PO:=fun _=>cR "count_of" "Book.count_of" 394 77 2 0 0 3 175 399
def o_293:PO:=fun _=>fO "age_counts" "Book.age_counts" (inClass (top 17) 15) .none "leastasked.book" 330 243
def o_221:PO:=fun _=>gO "deeds_done" "Book.deeds_done" (inClass (top 17) 5)
def o_285:PO:=fun _=>cR "pass_time" "Book.pass_time" 459 108 2 0 0 3 231 465
def o_205:PO:=fun _=>tO #[.str "self" 375, .str "name" 376]
def o_237:PO:=fun _=>fO "last_of" "Book.last_of" (inClass (top 17) 7) .none "leastasked.book" 330 187
def o_301:PO:=fun _=>tO #[.str "counts" 489, .str "deeds" 490, .str "lasts" 491, .str "part" 492, .str "span" 493, .str "time" 494]
def o_179:PO:=fun _=>cO "Book" "Book" 334 45 0 0 0 0 128 false 129 337 .none .none .none .none
def o_307:PO:=fun _=>{ cls := .type "builtin_function_or_method", data := .fields #[.builtin "object.__init_subclass__", .ref 254] }
def o_243:PO:=fun _=>cR "names" "Book.names" 410 85 1 0 0 3 189 414
def o_275:PO:=fun _=>tO #[.str "self" 454, .str "name" 455]
def o_195:PO:=fun _=>fO "ask" "Book.ask" (inClass (top 17) 1) (.ref 139) "leastasked.book" 330 145
def o_291:PO:=fun _=>gO "age_counts" "Book.age_counts" (inClass (top 17) 15)
def o_187:PO:=fun _=>fO "__init__" "Book.__init__" (inClass (top 17) 0) .none "leastasked.book" 330 137
def o_251:PO:=fun _=>fO "in_order" "Book.in_order" (inClass (top 17) 9) .none "leastasked.book" 330 201
def o_219:PO:=fun _=>tO #[.str "self" 390]
def o_235:PO:=fun _=>gO "last_of" "Book.last_of" (inClass (top 17) 7)
def o_299:PO:=fun _=>cR "fade" "Book.fade" 480 128 3 0 0 3 245 486
def o_183:PO:=fun _=>tO #[.str "self" 347, .str "span" 348, .str "part" 349]
def o_247:PO:=fun _=>tO #[.str "self" 420, .str "names" 421]
def o_215:PO:=fun _=>cR "time_now" "Book.time_now" 380 71 1 0 0 3 161 384
def o_279:PO:=fun _=>fO "begin_drop" "Book.begin_drop" (inClass (top 17) 13) .none "leastasked.book" 330 229
def o_263:PO:=fun _=>gO "begin_ask" "Book.begin_ask" (inClass (top 17) 11)
def o_191:PO:=fun _=>tO #[.str "self" 357, .str "name" 358, .str "weight" 359, .str "known" 360]
def o_223:PO:=fun _=>fO "deeds_done" "Book.deeds_done" (inClass (top 17) 5) .none "leastasked.book" 330 173
def o_207:PO:=fun _=>gO "drop" "Book.drop" (inClass (top 17) 3)
def o_271:PO:=fun _=>cR "grow" "Book.grow" 442 100 3 0 0 3 217 448
def o_303:PO:=fun _=>{ cls := .type "type", data := .cls { name := "Book", bases := [.type "object"], mro := [.ref 254, .type "object"], ns := 253, qualname := "Book" }, slots := #[none, none, some (.str "Book" 332), some (.str "Book" 340), some (.builtin "object.__new__"), some (.bool true)] }
def o_478:PO:=fun P=>dO #[en P "__name__" 165 (.str "law_leastasked_k06_whole_goings_walked" 605), en P "__doc__" 166 .none, en P "__package__" 167 .none, en P "__loader__" 168 (.builtin "__main__.__loader__#opaque"), en P "__spec__" 169 .none, en P "__annotations__" 170 (.ref 6), en P "__builtins__" 171 (.ref 4), en P "__file__" 173 (.str "/claim/cut.py" 172), en P "__cached__" 174 .none, en P "ShelfError" 206 (.ref 24), en P "NoName" 222 (.ref 37), en P "NoNumber" 238 (.ref 49), en P "NoRule" 254 (.ref 61), en P "is_whole_within" 265 (.ref 70), en P "is_name" 271 (.ref 75), en P "check_name" 278 (.ref 82), en P "check_weight" 285 (.ref 89), en P "check_steps" 292 (.ref 96), en P "check_places" 299 (.ref 103), en P "check_rule" 307 (.ref 110), en P "ageings" 318 (.ref 117), en P "aged" 329 (.ref 124), en P "Book" 502 (.ref 254), en P "Shelf" 604 (.ref 332), en P "_law_cell_at" 614 (.ref 341), en P "_law_whole" 621 (.ref 348), en P "_law_sign" 629 (.ref 355), en P "_law_names" 635 (.ref 360), en P "_law_many" 642 (.ref 367), en P "_law_span" 649 (.ref 374), en P "_law_part" 656 (.ref 381), en P "_law_places" 663 (.ref 388), en P "_law_deed" 676 (.ref 395), en P "_law_steps" 683 (.ref 402), en P "_law_do" 691 (.ref 409), en P "_law_aged" 700 (.ref 416), en P "_law_rested" 709 (.ref 423)] 37
def o_430:PO:=fun _=>fO "drop" "Shelf.drop" (inClass (top 19) 2) .none "leastasked.shelf" 503 286
def o_560:PO:=fun _=>cR "_law_aged" "_law_aged" 692 239 3 0 0 3 410 698
def o_496:PO:=fun _=>tO #[.str "_law_number" 625, .str "_law_some" 626]
def o_414:PO:=fun _=>cR "__init__" "Shelf.__init__" 517 133 4 0 0 3 266 524
def o_512:PO:=fun _=>fO "_law_many" "_law_many" (top 25) .none "law_leastasked_k06_whole_goings_walked" 605 366
def o_406:PO:=fun _=>{ cls := .none, data := .fields #[.int 133 0, .int 4 0, .ref 271, .int 140 0, .int 4 0, .ref 279, .int 148 0, .int 4 0, .ref 286, .int 155 0, .int 4 0, .ref 293, .int 158 0, .int 4 0, .ref 300, .int 162 0, .int 4 0, .ref 307, .int 165 0, .int 4 0, .ref 314, .int 171 0, .int 4 0, .ref 321, .int 175 0, .int 4 0, .ref 328] }
def o_536:PO:=fun _=>tO #[.str "_law_cell" 667, .str "_law_k" 668, .str "_law_names_here" 669, .str "_law_span_here" 670, .str "_law_light" 671, .str "_law_mixed" 672, .str "_law_name" 673]
def o_470:PO:=fun _=>gO "fade" "Shelf.fade" (inClass (top 19) 8)
def o_568:PO:=fun _=>fO "_law_rested" "_law_rested" (top 33) .none "law_leastasked_k06_whole_goings_walked" 605 422
def o_504:PO:=fun _=>cO "_law_names" "_law_names" 630 189 2 0 0 3 356 true 357 633 .none .none .none (.ref 358)
def o_422:PO:=fun _=>cR "ask" "Shelf.ask" 528 140 3 0 0 3 274 535
def o_552:PO:=fun _=>gO "_law_do" "_law_do" (top 31)
def o_454:PO:=fun _=>tO #[.str "self" 572, .str "name" 573, .str "weakest" 574]
def o_402:PO:=fun _=>tO #[.ref 254]
def o_532:PO:=fun _=>cR "_law_places" "_law_places" 657 213 1 0 0 3 382 661
def o_564:PO:=fun _=>tO #[.str "_law_deed_here" 704, .str "_law_found" 705, .str "_law_times" 706]
def o_500:PO:=fun _=>fO "_law_sign" "_law_sign" (top 23) .none "law_leastasked_k06_whole_goings_walked" 605 354
def o_484:PO:=fun _=>gO "_law_cell_at" "_law_cell_at" (top 21)
def o_450:PO:=fun _=>cR "goings" "Shelf.goings" 562 162 1 0 0 3 302 566
def o_540:PO:=fun _=>fO "_law_deed" "_law_deed" (top 29) .none "law_leastasked_k06_whole_goings_walked" 605 394
def o_474:PO:=fun P=>dO #[en P "__module__" 512 (.str "leastasked.shelf" 503), en P "__firstlineno__" 516 (.int 131 515), en P "__init__" 526 (.ref 272), en P "ask" 537 (.ref 280), en P "drop" 546 (.ref 287), en P "names" 553 (.ref 294), en P "has" 561 (.ref 301), en P "goings" 568 (.ref 308), en P "take_in" 577 (.ref 315), en P "take_off" 588 (.ref 322), en P "fade" 597 (.ref 329), en P "__static_attributes__" 601 (.ref 330), en P "__doc__" 602 .none] 2
def o_442:PO:=fun _=>gO "has" "Shelf.has" (inClass (top 19) 4)
def o_508:PO:=fun _=>tO #[.str "_law_cell" 639]
def o_426:PO:=fun _=>tO #[.str "self" 541, .str "name" 542, .str "stood" 543]
def o_492:PO:=fun _=>cR "_law_whole" "_law_whole" 615 183 1 0 0 3 342 619
def o_458:PO:=fun _=>fO "take_in" "Shelf.take_in" (inClass (top 19) 6) .none "leastasked.shelf" 503 314
def o_524:PO:=fun _=>gO "_law_part" "_law_part" (top 27)
def o_464:PO:=fun _=>cR "take_off" "Shelf.take_off" 578 171 5 0 0 3 316 586
def o_498:PO:=fun _=>gO "_law_sign" "_law_sign" (top 23)
def o_416:PO:=fun _=>tO #[.int 1 527]
def o_546:PO:=fun _=>cR "_law_steps" "_law_steps" 677 227 1 0 0 3 396 681
def o_482:PO:=fun _=>tO #[.str "_law_script" 610, .str "_law_k" 611]
def o_408:PO:=fun _=>{ cls := .type "frame", slots := #[some (.ref 264), some (.ref 3), some (.ref 261), none, some (.str "leastasked.shelf" 503), none, some (.ref 0)] }
def o_538:PO:=fun _=>gO "_law_deed" "_law_deed" (top 29)
def o_472:PO:=fun _=>fO "fade" "Shelf.fade" (inClass (top 19) 8) .none "leastasked.shelf" 503 328
def o_440:PO:=fun _=>tO #[.str "self" 557, .str "name" 558]
def o_554:PO:=fun _=>fO "_law_do" "_law_do" (top 31) .none "law_leastasked_k06_whole_goings_walked" 605 408
def o_456:PO:=fun _=>gO "take_in" "Shelf.take_in" (inClass (top 19) 6)
def o_522:PO:=fun _=>tO #[.str "_law_cell" 653]
def o_404:PO:=fun P=>dO #[en P "__module__" 512 (.str "leastasked.shelf" 503), en P "__qualname__" 514 (.str "Shelf" 513), en P "__firstlineno__" 516 (.int 131 515), en P "__init__" 526 (.ref 272), en P "ask" 537 (.ref 280), en P "drop" 546 (.ref 287), en P "names" 553 (.ref 294), en P "has" 561 (.ref 301), en P "goings" 568 (.ref 308), en P "take_in" 577 (.ref 315), en P "take_off" 588 (.ref 322), en P "fade" 597 (.ref 329), en P "__static_attributes__" 601 (.ref 330)] 13
def o_468:PO:=fun _=>tO #[.str "self" 592, .str "name" 593, .str "last" 594]
def o_436:PO:=fun _=>cR "names" "Shelf.names" 547 155 1 0 0 3 288 551
def o_566:PO:=fun _=>gO "_law_rested" "_law_rested" (top 33)
def o_550:PO:=fun _=>tO #[.str "_law_thing" 687, .str "_law_deed_here" 688]
def o_486:PO:=fun _=>fO "_law_cell_at" "_law_cell_at" (top 21) .none "law_leastasked_k06_whole_goings_walked" 605 340
def o_518:PO:=fun _=>cR "_law_span" "_law_span" 643 205 1 0 0 3 368 647
def o_476:PO:=fun _=>{ cls := .type "super", data := .fields #[.ref 332, .ref 332, .ref 332] }
def o_444:PO:=fun _=>fO "has" "Shelf.has" (inClass (top 19) 4) .none "leastasked.shelf" 503 300
def o_510:PO:=fun _=>gO "_law_many" "_law_many" (top 25)
def o_428:PO:=fun _=>gO "drop" "Shelf.drop" (inClass (top 19) 2)
def o_526:PO:=fun _=>fO "_law_part" "_law_part" (top 27) .none "law_leastasked_k06_whole_goings_walked" 605 380
def o_529:PO:=fun _=>tO #[.str "_law_cell" 660]
def o_463:PO:=fun _=>gO "take_off" "Shelf.take_off" (inClass (top 19) 7)
def o_561:PO:=fun _=>fO "_law_aged" "_law_aged" (top 32) .none "law_leastasked_k06_whole_goings_walked" 605 415
def o_415:PO:=fun _=>fO "__init__" "Shelf.__init__" (inClass (top 19) 0) .none "leastasked.shelf" 503 271
def o_545:PO:=fun _=>gO "_law_steps" "_law_steps" (top 30)
def o_447:PO:=fun _=>tO #[.str "self" 565]
def o_407:PO:=fun _=>cO "Shelf" "Shelf" 507 131 0 0 0 0 262 false 263 510 .none .none .none .none
def o_471:PO:=fun _=>cR "fade" "Shelf.fade" 589 175 3 0 0 3 323 595
def o_505:PO:=fun _=>fO "_law_names" "_law_names" (top 24) .none "law_leastasked_k06_whole_goings_walked" 605 359
def o_423:PO:=fun _=>fO "ask" "Shelf.ask" (inClass (top 19) 1) (.ref 273) "leastasked.shelf" 503 279
def o_553:PO:=fun _=>cR "_law_do" "_law_do" 684 231 2 0 0 3 403 689
def o_489:PO:=fun _=>tO #[.str "_law_found" 618]
def o_479:PO:=fun _=>{ cls := .none, data := .fields #[.int 2 0, .int 0 0, .ref 20, .int 4 0, .int 0 0, .ref 33, .int 6 0, .int 0 0, .ref 45, .int 8 0, .int 0 0, .ref 57, .int 11 0, .int 0 0, .ref 69, .int 15 0, .int 0 0, .ref 74, .int 19 0, .int 0 0, .ref 81, .int 22 0, .int 0 0, .ref 88, .int 25 0, .int 0 0, .ref 95, .int 28 0, .int 0 0, .ref 102, .int 31 0, .int 0 0, .ref 109, .int 37 0, .int 0 0, .ref 116, .int 39 0, .int 0 0, .ref 123, .int 45 0, .int 0 0, .ref 130, .int 131 0, .int 0 0, .ref 264, .int 179 0, .int 0 0, .ref 340, .int 183 0, .int 0 0, .ref 347, .int 185 0, .int 0 0, .ref 354, .int 189 0, .int 0 0, .ref 359, .int 201 0, .int 0 0, .ref 366, .int 205 0, .int 0 0, .ref 373, .int 209 0, .int 0 0, .ref 380, .int 213 0, .int 0 0, .ref 387, .int 217 0, .int 0 0, .ref 394, .int 227 0, .int 0 0, .ref 401, .int 231 0, .int 0 0, .ref 408, .int 239 0, .int 0 0, .ref 415, .int 244 0, .int 0 0, .ref 422] }
def o_533:PO:=fun _=>fO "_law_places" "_law_places" (top 28) .none "law_leastasked_k06_whole_goings_walked" 605 387
def o_435:PO:=fun _=>gO "names" "Shelf.names" (inClass (top 19) 3)
def o_419:PO:=fun _=>tO #[.str "self" 531, .str "name" 532, .str "weight" 533, .str "met" 534]
def o_485:PO:=fun _=>cR "_law_cell_at" "_law_cell_at" 607 179 2 0 0 3 335 612
def o_451:PO:=fun _=>fO "goings" "Shelf.goings" (inClass (top 19) 5) .none "leastasked.shelf" 503 307
def o_517:PO:=fun _=>gO "_law_span" "_law_span" (top 26)
def o_411:PO:=fun _=>tO #[.str "self" 520, .str "places" 521, .str "span" 522, .str "part" 523]
def o_475:PO:=fun _=>{ cls := .type "type", data := .cls { name := "Shelf", bases := [.ref 254], mro := [.ref 332, .ref 254, .type "object"], ns := 331, qualname := "Shelf" }, slots := #[some (.ref 259), none, some (.str "Shelf" 505), some (.str "Shelf" 513), some (.builtin "object.__new__"), some (.bool true)] }
def o_443:PO:=fun _=>cR "has" "Shelf.has" 554 158 2 0 0 3 295 559
def o_557:PO:=fun _=>tO #[.str "_law_count" 695, .str "_law_part_here" 696, .str "_law_times" 697]
def o_493:PO:=fun _=>fO "_law_whole" "_law_whole" (top 22) .none "law_leastasked_k06_whole_goings_walked" 605 347
def o_525:PO:=fun _=>cR "_law_part" "_law_part" 650 209 1 0 0 3 375 654
def o_531:PO:=fun _=>gO "_law_places" "_law_places" (top 28)
def o_465:PO:=fun _=>fO "take_off" "Shelf.take_off" (inClass (top 19) 7) .none "leastasked.shelf" 503 321
def o_433:PO:=fun _=>tO #[.str "self" 550]
def o_499:PO:=fun _=>cR "_law_sign" "_law_sign" 622 185 1 0 0 3 349 627
def o_547:PO:=fun _=>fO "_law_steps" "_law_steps" (top 30) .none "law_leastasked_k06_whole_goings_walked" 605 401
def o_449:PO:=fun _=>gO "goings" "Shelf.goings" (inClass (top 19) 5)
def o_515:PO:=fun _=>tO #[.str "_law_cell" 646]
def o_539:PO:=fun _=>cR "_law_deed" "_law_deed" 664 217 5 0 0 3 389 674
def o_473:PO:=fun _=>tO #[.str "gone" 598, .str "places" 599, .str "standing" 600]
def o_491:PO:=fun _=>gO "_law_whole" "_law_whole" (top 22)
def o_457:PO:=fun _=>cR "take_in" "Shelf.take_in" 569 165 2 0 0 3 309 575
def o_437:PO:=fun _=>fO "names" "Shelf.names" (inClass (top 19) 3) .none "leastasked.shelf" 503 293
def o_567:PO:=fun _=>cR "_law_rested" "_law_rested" 701 244 3 0 0 3 417 707
def o_503:PO:=fun _=>gO "_law_names" "_law_names" (top 24)
def o_421:PO:=fun _=>gO "ask" "Shelf.ask" (inClass (top 19) 1)
def o_519:PO:=fun _=>fO "_law_span" "_law_span" (top 26) .none "law_leastasked_k06_whole_goings_walked" 605 373
def o_413:PO:=fun _=>gO "__init__" "Shelf.__init__" (inClass (top 19) 0)
def o_543:PO:=fun _=>tO #[.str "_law_deed_here" 680]
def o_477:PO:=fun _=>{ cls := .type "builtin_function_or_method", data := .fields #[.builtin "object.__init_subclass__", .ref 332] }
def o_511:PO:=fun _=>cR "_law_many" "_law_many" 636 201 1 0 0 3 361 640
def o_429:PO:=fun _=>cR "drop" "Shelf.drop" 538 148 2 0 0 3 281 544
def o_559:PO:=fun _=>gO "_law_aged" "_law_aged" (top 32)
def o_461:PO:=fun _=>tO #[.str "self" 581, .str "name" 582, .str "reason" 583, .str "count" 584, .str "last" 585]
def o_401:PO:=fun _=>{ cls := .type "type", data := .cls { name := "Book", bases := [.type "object"], mro := [.ref 254, .type "object"], ns := 253, qualname := "Book", subclasses := [.ref 332] }, slots := #[none, none, some (.str "Book" 332), some (.str "Book" 340), some (.builtin "object.__new__"), some (.bool true)] }
def o_569:PO:=fun P=>dO #[en P "__name__" 165 (.str "law_leastasked_k06_whole_goings_walked" 605), en P "__doc__" 166 .none, en P "__package__" 167 .none, en P "__loader__" 168 (.builtin "__main__.__loader__#opaque"), en P "__spec__" 169 .none, en P "__annotations__" 170 (.ref 6), en P "__builtins__" 171 (.ref 4), en P "__file__" 173 (.str "/claim/cut.py" 172), en P "__cached__" 174 .none, en P "ShelfError" 206 (.ref 24), en P "NoName" 222 (.ref 37), en P "NoNumber" 238 (.ref 49), en P "NoRule" 254 (.ref 61), en P "is_whole_within" 265 (.ref 70), en P "is_name" 271 (.ref 75), en P "check_name" 278 (.ref 82), en P "check_weight" 285 (.ref 89), en P "check_steps" 292 (.ref 96), en P "check_places" 299 (.ref 103), en P "check_rule" 307 (.ref 110), en P "ageings" 318 (.ref 117), en P "aged" 329 (.ref 124), en P "Book" 502 (.ref 254), en P "Shelf" 604 (.ref 332), en P "_law_cell_at" 614 (.ref 341), en P "_law_whole" 621 (.ref 348), en P "_law_sign" 629 (.ref 355), en P "_law_names" 635 (.ref 360), en P "_law_many" 642 (.ref 367), en P "_law_span" 649 (.ref 374), en P "_law_part" 656 (.ref 381), en P "_law_places" 663 (.ref 388), en P "_law_deed" 676 (.ref 395), en P "_law_steps" 683 (.ref 402), en P "_law_do" 691 (.ref 409), en P "_law_aged" 700 (.ref 416), en P "_law_rested" 709 (.ref 423), en P "_law_kinds" 716 (.ref 430), en P "_law_is_going" 728 (.ref 437), en P "_law_left_by_faded" 734 (.ref 442), en P "_law_left_by_rest" 740 (.ref 447), en P "_law_listed" 746 (.ref 452), en P "_law_walked" 752 (.ref 457), en P "_law_known" 766 (.ref 464), en P "_law_seen" 780 (.ref 471), en P "law" 786 (.ref 476)] 46
def o_594:PO:=fun _=>fO "_law_left_by_rest" "_law_left_by_rest" (top 37) .none "law_leastasked_k06_whole_goings_walked" 605 446
def o_610:PO:=fun _=>cR "_law_known" "_law_known" 753 304 5 0 0 3 458 764
def o_602:PO:=fun _=>gO "_law_walked" "_law_walked" (top 39)
def o_618:PO:=fun _=>fO "_law_seen" "_law_seen" (top 41) .none "law_leastasked_k06_whole_goings_walked" 605 470
def o_598:PO:=fun _=>cO "_law_listed" "_law_listed" 741 285 4 0 0 3 448 true 449 744 .none .none .none (.ref 450)
def o_614:PO:=fun _=>tO #[.str "_law_shelf" 770, .str "_law_name" 771, .str "_law_standing" 772, .str "_law_counts" 773, .str "_law_lasts" 774, .str "_law_time" 775, .str "_law_number" 776, .str "_law_found" 777]
def o_582:PO:=fun _=>gO "_law_is_going" "_law_is_going" (top 35)
def o_622:PO:=fun _=>cO "law" "law" 781 319 1 0 0 3 472 true 473 784 .none .none .none (.ref 474)
def o_580:PO:=fun _=>tO #[.str "_law_row" 720, .str "_law_number" 721, .str "_law_reason" 722, .str "_law_counts" 723, .str "_law_lasts" 724, .str "_law_standing" 725]
def o_604:PO:=fun _=>fO "_law_walked" "_law_walked" (top 39) .none "law_leastasked_k06_whole_goings_walked" 605 456
def o_588:PO:=fun _=>cO "_law_left_by_faded" "_law_left_by_faded" 729 254 5 0 0 3 438 true 439 732 .none .none .none (.ref 440)
def o_616:PO:=fun _=>gO "_law_seen" "_law_seen" (top 41)
def o_584:PO:=fun _=>fO "_law_is_going" "_law_is_going" (top 35) .none "law_leastasked_k06_whole_goings_walked" 605 436
def o_576:PO:=fun _=>cR "_law_kinds" "_law_kinds" 710 246 1 0 0 3 424 714
def o_592:PO:=fun _=>gO "_law_left_by_rest" "_law_left_by_rest" (top 37)
def o_611:PO:=fun _=>fO "_law_known" "_law_known" (top 40) .none "law_leastasked_k06_whole_goings_walked" 605 463
def o_603:PO:=fun _=>cO "_law_walked" "_law_walked" 747 288 8 0 0 3 453 true 454 750 .none .none .none (.ref 455)
def o_587:PO:=fun _=>gO "_law_left_by_faded" "_law_left_by_faded" (top 36)
def o_570:PO:=fun _=>{ cls := .none, data := .fields #[.int 2 0, .int 0 0, .ref 20, .int 4 0, .int 0 0, .ref 33, .int 6 0, .int 0 0, .ref 45, .int 8 0, .int 0 0, .ref 57, .int 11 0, .int 0 0, .ref 69, .int 15 0, .int 0 0, .ref 74, .int 19 0, .int 0 0, .ref 81, .int 22 0, .int 0 0, .ref 88, .int 25 0, .int 0 0, .ref 95, .int 28 0, .int 0 0, .ref 102, .int 31 0, .int 0 0, .ref 109, .int 37 0, .int 0 0, .ref 116, .int 39 0, .int 0 0, .ref 123, .int 45 0, .int 0 0, .ref 130, .int 131 0, .int 0 0, .ref 264, .int 179 0, .int 0 0, .ref 340, .int 183 0, .int 0 0, .ref 347, .int 185 0, .int 0 0, .ref 354, .int 189 0, .int 0 0, .ref 359, .int 201 0, .int 0 0, .ref 366, .int 205 0, .int 0 0, .ref 373, .int 209 0, .int 0 0, .ref 380, .int 213 0, .int 0 0, .ref 387, .int 217 0, .int 0 0, .ref 394, .int 227 0, .int 0 0, .ref 401, .int 231 0, .int 0 0, .ref 408, .int 239 0, .int 0 0, .ref 415, .int 244 0, .int 0 0, .ref 422, .int 246 0, .int 0 0, .ref 429, .int 250 0, .int 0 0, .ref 436, .int 254 0, .int 0 0, .ref 441, .int 267 0, .int 0 0, .ref 446, .int 285 0, .int 0 0, .ref 451, .int 288 0, .int 0 0, .ref 456, .int 304 0, .int 0 0, .ref 463, .int 313 0, .int 0 0, .ref 470, .int 319 0, .int 0 0, .ref 475] }
def o_599:PO:=fun _=>fO "_law_listed" "_law_listed" (top 38) .none "law_leastasked_k06_whole_goings_walked" 605 451
def o_583:PO:=fun _=>cR "_law_is_going" "_law_is_going" 717 250 6 0 0 3 431 726
def o_607:PO:=fun _=>tO #[.str "_law_shelf" 756, .str "_law_name" 757, .str "_law_standing" 758, .str "_law_counts" 759, .str "_law_lasts" 760, .str "_law_stands" 761, .str "_law_count" 762, .str "_law_last" 763]
def o_575:PO:=fun _=>gO "_law_kinds" "_law_kinds" (top 34)
def o_623:PO:=fun _=>fO "law" "law" (top 42) .none "law_leastasked_k06_whole_goings_walked" 605 475
def o_597:PO:=fun _=>gO "_law_listed" "_law_listed" (top 38)
def o_573:PO:=fun _=>tO #[.str "_law_row" 713]
def o_621:PO:=fun _=>gO "law" "law" (top 42)
def o_589:PO:=fun _=>fO "_law_left_by_faded" "_law_left_by_faded" (top 36) .none "law_leastasked_k06_whole_goings_walked" 605 441
def o_617:PO:=fun _=>cR "_law_seen" "_law_seen" 767 313 7 0 0 3 465 778
def o_609:PO:=fun _=>gO "_law_known" "_law_known" (top 40)
def o_577:PO:=fun _=>fO "_law_kinds" "_law_kinds" (top 34) .none "law_leastasked_k06_whole_goings_walked" 605 429
def o_593:PO:=fun _=>cO "_law_left_by_rest" "_law_left_by_rest" 735 267 7 0 0 3 443 true 444 738 .none .none .none (.ref 445)
def KK : Params → Frag := fun P =>
(nat_lit 2, { cls := .none, data := .dict #[] })::
(nat_lit 3,o_569 P)::
(nat_lit 15,o_51 P)::
(nat_lit 22,o_43 P)::
(nat_lit 23,o_59 P)::
(nat_lit 24,o_96 P)::
(nat_lit 25,o_61 P)::
(nat_lit 28,o_82 P)::
(nat_lit 35,o_43 P)::
(nat_lit 36,o_75 P)::
(nat_lit 37,o_76 P)::
(nat_lit 40,o_82 P)::
(nat_lit 47,o_43 P)::
(nat_lit 48,o_90 P)::
(nat_lit 49,o_91 P)::
(nat_lit 52,o_82 P)::
(nat_lit 59,o_43 P)::
(nat_lit 60,o_105 P)::
(nat_lit 61,o_106 P)::
(nat_lit 64,o_43 P)::
(nat_lit 66,o_111 P)::
(nat_lit 67,o_43 P)::
(nat_lit 69,o_114 P)::
(nat_lit 70,o_115 P)::
(nat_lit 71,o_43 P)::
(nat_lit 74,o_119 P)::
(nat_lit 75,o_120 P)::
(nat_lit 76,o_43 P)::
(nat_lit 78,o_123 P)::
(nat_lit 79,o_43 P)::
(nat_lit 81,o_126 P)::
(nat_lit 82,o_127 P)::
(nat_lit 83,o_43 P)::
(nat_lit 85,o_130 P)::
(nat_lit 86,o_43 P)::
(nat_lit 88,o_133 P)::
(nat_lit 89,o_134 P)::
(nat_lit 90,o_43 P)::
(nat_lit 92,o_137 P)::
(nat_lit 93,o_43 P)::
(nat_lit 95,o_140 P)::
(nat_lit 96,o_141 P)::
(nat_lit 97,o_43 P)::
(nat_lit 99,o_144 P)::
(nat_lit 100,o_43 P)::
(nat_lit 102,o_147 P)::
(nat_lit 103,o_148 P)::
(nat_lit 104,o_43 P)::
(nat_lit 106,o_153 P)::
(nat_lit 107,o_43 P)::
(nat_lit 109,o_156 P)::
(nat_lit 110,o_157 P)::
(nat_lit 111,o_43 P)::
(nat_lit 113,o_160 P)::
(nat_lit 114,o_43 P)::
(nat_lit 116,o_163 P)::
(nat_lit 117,o_164 P)::
(nat_lit 118,o_43 P)::
(nat_lit 120,o_167 P)::
(nat_lit 121,o_43 P)::
(nat_lit 123,o_170 P)::
(nat_lit 124,o_171 P)::
(nat_lit 132,o_43 P)::
(nat_lit 134,o_183 P)::
(nat_lit 135,o_43 P)::
(nat_lit 137,o_186 P)::
(nat_lit 138,o_187 P)::
(nat_lit 139,o_188 P)::
(nat_lit 140,o_43 P)::
(nat_lit 142,o_191 P)::
(nat_lit 143,o_43 P)::
(nat_lit 145,o_194 P)::
(nat_lit 146,o_195 P)::
(nat_lit 147,o_43 P)::
(nat_lit 149,o_198 P)::
(nat_lit 150,o_43 P)::
(nat_lit 152,o_201 P)::
(nat_lit 153,o_202 P)::
(nat_lit 154,o_43 P)::
(nat_lit 156,o_205 P)::
(nat_lit 157,o_43 P)::
(nat_lit 159,o_208 P)::
(nat_lit 160,o_209 P)::
(nat_lit 161,o_43 P)::
(nat_lit 163,o_212 P)::
(nat_lit 164,o_43 P)::
(nat_lit 166,o_215 P)::
(nat_lit 167,o_216 P)::
(nat_lit 168,o_43 P)::
(nat_lit 170,o_219 P)::
(nat_lit 171,o_43 P)::
(nat_lit 173,o_222 P)::
(nat_lit 174,o_223 P)::
(nat_lit 175,o_43 P)::
(nat_lit 177,o_226 P)::
(nat_lit 178,o_43 P)::
(nat_lit 180,o_229 P)::
(nat_lit 181,o_230 P)::
(nat_lit 182,o_43 P)::
(nat_lit 184,o_233 P)::
(nat_lit 185,o_43 P)::
(nat_lit 187,o_236 P)::
(nat_lit 188,o_237 P)::
(nat_lit 189,o_43 P)::
(nat_lit 191,o_240 P)::
(nat_lit 192,o_43 P)::
(nat_lit 194,o_243 P)::
(nat_lit 195,o_244 P)::
(nat_lit 196,o_43 P)::
(nat_lit 198,o_247 P)::
(nat_lit 199,o_43 P)::
(nat_lit 201,o_250 P)::
(nat_lit 202,o_251 P)::
(nat_lit 203,o_43 P)::
(nat_lit 205,o_254 P)::
(nat_lit 206,o_43 P)::
(nat_lit 208,o_257 P)::
(nat_lit 209,o_258 P)::
(nat_lit 210,o_43 P)::
(nat_lit 212,o_261 P)::
(nat_lit 213,o_43 P)::
(nat_lit 215,o_264 P)::
(nat_lit 216,o_265 P)::
(nat_lit 217,o_43 P)::
(nat_lit 219,o_268 P)::
(nat_lit 220,o_43 P)::
(nat_lit 222,o_271 P)::
(nat_lit 223,o_272 P)::
(nat_lit 224,o_43 P)::
(nat_lit 226,o_275 P)::
(nat_lit 227,o_43 P)::
(nat_lit 229,o_278 P)::
(nat_lit 230,o_279 P)::
(nat_lit 231,o_43 P)::
(nat_lit 233,o_282 P)::
(nat_lit 234,o_43 P)::
(nat_lit 236,o_285 P)::
(nat_lit 237,o_286 P)::
(nat_lit 238,o_43 P)::
(nat_lit 240,o_289 P)::
(nat_lit 241,o_43 P)::
(nat_lit 243,o_292 P)::
(nat_lit 244,o_293 P)::
(nat_lit 245,o_43 P)::
(nat_lit 247,o_296 P)::
(nat_lit 248,o_43 P)::
(nat_lit 250,o_299 P)::
(nat_lit 251,o_300 P)::
(nat_lit 252,o_301 P)::
(nat_lit 253,o_302 P)::
(nat_lit 254,o_401 P)::
(nat_lit 255,o_304 P)::
(nat_lit 256,o_305 P)::
(nat_lit 259,o_402 P)::
(nat_lit 266,o_43 P)::
(nat_lit 268,o_411 P)::
(nat_lit 269,o_43 P)::
(nat_lit 271,o_414 P)::
(nat_lit 272,o_415 P)::
(nat_lit 273,o_416 P)::
(nat_lit 274,o_43 P)::
(nat_lit 276,o_419 P)::
(nat_lit 277,o_43 P)::
(nat_lit 279,o_422 P)::
(nat_lit 280,o_423 P)::
(nat_lit 281,o_43 P)::
(nat_lit 283,o_426 P)::
(nat_lit 284,o_43 P)::
(nat_lit 286,o_429 P)::
(nat_lit 287,o_430 P)::
(nat_lit 288,o_43 P)::
(nat_lit 290,o_433 P)::
(nat_lit 291,o_43 P)::
(nat_lit 293,o_436 P)::
(nat_lit 294,o_437 P)::
(nat_lit 295,o_43 P)::
(nat_lit 297,o_440 P)::
(nat_lit 298,o_43 P)::
(nat_lit 300,o_443 P)::
(nat_lit 301,o_444 P)::
(nat_lit 302,o_43 P)::
(nat_lit 304,o_447 P)::
(nat_lit 305,o_43 P)::
(nat_lit 307,o_450 P)::
(nat_lit 308,o_451 P)::
(nat_lit 309,o_43 P)::
(nat_lit 311,o_454 P)::
(nat_lit 312,o_43 P)::
(nat_lit 314,o_457 P)::
(nat_lit 315,o_458 P)::
(nat_lit 316,o_43 P)::
(nat_lit 318,o_461 P)::
(nat_lit 319,o_43 P)::
(nat_lit 321,o_464 P)::
(nat_lit 322,o_465 P)::
(nat_lit 323,o_43 P)::
(nat_lit 325,o_468 P)::
(nat_lit 326,o_43 P)::
(nat_lit 328,o_471 P)::
(nat_lit 329,o_472 P)::
(nat_lit 330,o_473 P)::
(nat_lit 331,o_474 P)::
(nat_lit 332,o_475 P)::
(nat_lit 335,o_43 P)::
(nat_lit 337,o_482 P)::
(nat_lit 338,o_43 P)::
(nat_lit 340,o_485 P)::
(nat_lit 341,o_486 P)::
(nat_lit 342,o_43 P)::
(nat_lit 344,o_489 P)::
(nat_lit 345,o_43 P)::
(nat_lit 347,o_492 P)::
(nat_lit 348,o_493 P)::
(nat_lit 349,o_43 P)::
(nat_lit 351,o_496 P)::
(nat_lit 352,o_43 P)::
(nat_lit 354,o_499 P)::
(nat_lit 355,o_500 P)::
(nat_lit 356,o_43 P)::
(nat_lit 359,o_504 P)::
(nat_lit 360,o_505 P)::
(nat_lit 361,o_43 P)::
(nat_lit 363,o_508 P)::
(nat_lit 364,o_43 P)::
(nat_lit 366,o_511 P)::
(nat_lit 367,o_512 P)::
(nat_lit 368,o_43 P)::
(nat_lit 370,o_515 P)::
(nat_lit 371,o_43 P)::
(nat_lit 373,o_518 P)::
(nat_lit 374,o_519 P)::
(nat_lit 375,o_43 P)::
(nat_lit 377,o_522 P)::
(nat_lit 378,o_43 P)::
(nat_lit 380,o_525 P)::
(nat_lit 381,o_526 P)::
(nat_lit 382,o_43 P)::
(nat_lit 384,o_529 P)::
(nat_lit 385,o_43 P)::
(nat_lit 387,o_532 P)::
(nat_lit 388,o_533 P)::
(nat_lit 389,o_43 P)::
(nat_lit 391,o_536 P)::
(nat_lit 392,o_43 P)::
(nat_lit 394,o_539 P)::
(nat_lit 395,o_540 P)::
(nat_lit 396,o_43 P)::
(nat_lit 398,o_543 P)::
(nat_lit 399,o_43 P)::
(nat_lit 401,o_546 P)::
(nat_lit 402,o_547 P)::
(nat_lit 403,o_43 P)::
(nat_lit 405,o_550 P)::
(nat_lit 406,o_43 P)::
(nat_lit 408,o_553 P)::
(nat_lit 409,o_554 P)::
(nat_lit 410,o_43 P)::
(nat_lit 412,o_557 P)::
(nat_lit 413,o_43 P)::
(nat_lit 415,o_560 P)::
(nat_lit 416,o_561 P)::
(nat_lit 417,o_43 P)::
(nat_lit 419,o_564 P)::
(nat_lit 420,o_43 P)::
(nat_lit 422,o_567 P)::
(nat_lit 423,o_568 P)::
(nat_lit 424,o_43 P)::
(nat_lit 426,o_573 P)::
(nat_lit 427,o_43 P)::
(nat_lit 429,o_576 P)::
(nat_lit 430,o_577 P)::
(nat_lit 431,o_43 P)::
(nat_lit 433,o_580 P)::
(nat_lit 434,o_43 P)::
(nat_lit 436,o_583 P)::
(nat_lit 437,o_584 P)::
(nat_lit 438,o_43 P)::
(nat_lit 441,o_588 P)::
(nat_lit 442,o_589 P)::
(nat_lit 443,o_43 P)::
(nat_lit 446,o_593 P)::
(nat_lit 447,o_594 P)::
(nat_lit 448,o_43 P)::
(nat_lit 451,o_598 P)::
(nat_lit 452,o_599 P)::
(nat_lit 453,o_43 P)::
(nat_lit 456,o_603 P)::
(nat_lit 457,o_604 P)::
(nat_lit 458,o_43 P)::
(nat_lit 460,o_607 P)::
(nat_lit 461,o_43 P)::
(nat_lit 463,o_610 P)::
(nat_lit 464,o_611 P)::
(nat_lit 465,o_43 P)::
(nat_lit 467,o_614 P)::
(nat_lit 468,o_43 P)::
(nat_lit 470,o_617 P)::
(nat_lit 471,o_618 P)::
(nat_lit 472,o_43 P)::
(nat_lit 475,o_622 P)::
(nat_lit 476,o_623 P) :: []
def KA : List Addr := [2,3,15,22,23,24,25,28,35,36,37,40,47,48,49,52,59,60,61,64,66,67,69,70,71,74,75,76,78,79,81,82,83,85,86,88,89,90,92,93,95,96,97,99,100,102,103,104,106,107,109,110,111,113,114,116,117,118,120,121,123,124,132,134,135,137,138,139,140,142,143,145,146,147,149,150,152,153,154,156,157,159,160,161,163,164,166,167,168,170,171,173,174,175,177,178,180,181,182,184,185,187,188,189,191,192,194,195,196,198,199,201,202,203,205,206,208,209,210,212,213,215,216,217,219,220,222,223,224,226,227,229,230,231,233,234,236,237,238,240,241,243,244,245,247,248,250,251,252,253,254,255,256,259,266,268,269,271,272,273,274,276,277,279,280,281,283,284,286,287,288,290,291,293,294,295,297,298,300,301,302,304,305,307,308,309,311,312,314,315,316,318,319,321,322,323,325,326,328,329,330,331,332,335,337,338,340,341,342,344,345,347,348,349,351,352,354,355,356,359,360,361,363,364,366,367,368,370,371,373,374,375,377,378,380,381,382,384,385,387,388,389,391,392,394,395,396,398,399,401,402,403,405,406,408,409,410,412,413,415,416,417,419,420,422,423,424,426,427,429,430,431,433,434,436,437,438,441,442,443,446,447,448,451,452,453,456,457,458,460,461,463,464,465,467,468,470,471,472,475,476]
theorem ka (P : Params) : KA = (KK P).map (·.1) := by kernel_rfl
def hook : Hook := kHook KK KA ka
def view : Program := { PySem.Challenge.pw_leastasked_k06_whole_goings_walked with main := { PySem.Challenge.pw_leastasked_k06_whole_goings_walked.main with body := [top 1, top 2, top 3, top 4, top 6, top 7, top 8, top 9, top 10, top 11, top 12, top 14, top 15, top 17, top 19, top 21, top 22, top 23, top 24, top 25, top 26, top 27, top 28, top 29, top 30, top 31, top 32, top 33, top 34, top 35, top 36, top 37, top 38, top 39, top 40, top 41, top 42] } }
def seenX : Shared → Bool := fun s => xlAt view [] s && recOk (PySem.Challenge.rw_leastasked_k06_whole_goings_walked).row.records s

def h0 : Params → Heap := fun P => { objs := { toList := [boot_o_0 P, boot_o_1 P, boot_o_2 P, boot_o_3 P, boot_o_4 P, boot_o_5 P, boot_o_6 P, boot_o_7 P, boot_o_8 P, boot_o_9 P, boot_o_10 P, o_43 P, o_44 P, o_45 P, o_46 P] } }
def t0 : PT := Nn boot_o_0 (Nn boot_o_1 (Nn boot_o_3 (Lf boot_o_7) (Lf o_43)) (Nn boot_o_5 (Lf boot_o_9) (Lf o_45))) (Nn boot_o_2 (Nn boot_o_4 (Lf boot_o_8) (Lf o_44)) (Nn boot_o_6 (Lf boot_o_10) (Lf o_46)))
def t1 : PT := Nn boot_o_0 (Nn boot_o_1 (Nn o_79 (Nn boot_o_7 (Nn o_51 (Lf o_43) (Lf o_43)) (Nn o_59 (Lf o_78) Ze)) (Nn o_43 (Nn o_44 (Lf o_43) (Lf o_93)) (Nn o_63 (Lf o_43) Ze))) (Nn boot_o_5 (Nn boot_o_9 (Nn o_53 (Lf o_72) (Lf o_91)) (Nn o_61 (Lf o_83) Ze)) (Nn o_45 (Nn o_57 (Lf o_76) Ze) (Nn o_83 (Lf o_87) Ze)))) (Nn boot_o_2 (Nn boot_o_4 (Nn boot_o_8 (Nn o_83 (Lf o_44) (Lf o_90)) (Nn o_81 (Lf o_82) Ze)) (Nn o_80 (Nn o_56 (Lf o_75) Ze) (Nn o_82 (Lf o_44) Ze))) (Nn boot_o_6 (Nn boot_o_10 (Nn o_43 (Lf o_73) (Lf o_92)) (Nn o_62 (Lf o_84) Ze)) (Nn o_46 (Nn o_43 (Lf o_77) Ze) (Nn o_69 (Lf o_88) Ze))))
def t2 : PT := Nn boot_o_0 (Nn boot_o_1 (Nn o_149 (Nn boot_o_7 (Nn o_51 (Nn o_43 (Lf o_108) (Lf o_140)) (Nn o_43 (Lf o_43) (Lf o_43))) (Nn o_59 (Nn o_78 (Lf o_43) (Lf o_148)) (Nn o_43 (Lf o_132) (Lf o_44)))) (Nn o_43 (Nn o_44 (Nn o_43 (Lf o_43) (Lf o_144)) (Nn o_93 (Lf o_43) (Lf o_162))) (Nn o_63 (Nn o_43 (Lf o_120) (Lf o_43)) (Nn o_43 (Lf o_44) (Lf o_170))))) (Nn boot_o_5 (Nn boot_o_9 (Nn o_53 (Nn o_72 (Lf o_44) (Lf o_43)) (Nn o_91 (Lf o_126) (Lf o_160))) (Nn o_61 (Nn o_83 (Lf o_118) (Lf o_44)) (Nn o_102 (Lf o_134) (Lf o_43)))) (Nn o_45 (Nn o_57 (Nn o_76 (Lf o_114) (Lf o_146)) (Nn o_83 (Lf o_130) (Lf o_164))) (Nn o_83 (Nn o_87 (Lf o_44) (Lf o_156)) (Nn o_106 (Lf o_43) Ze))))) (Nn boot_o_2 (Nn boot_o_4 (Nn boot_o_8 (Nn o_83 (Nn o_44 (Lf o_43) (Lf o_141)) (Nn o_90 (Lf o_125) (Lf o_44))) (Nn o_96 (Nn o_82 (Lf o_44) (Lf o_43)) (Nn o_44 (Lf o_133) (Lf o_167)))) (Nn o_150 (Nn o_56 (Nn o_75 (Lf o_113) (Lf o_43)) (Nn o_82 (Lf o_44) (Lf o_163))) (Nn o_82 (Nn o_44 (Lf o_43) (Lf o_155)) (Nn o_105 (Lf o_137) (Lf o_171))))) (Nn boot_o_6 (Nn boot_o_10 (Nn o_43 (Nn o_73 (Lf o_111) (Lf o_44)) (Nn o_92 (Lf o_127) (Lf o_43))) (Nn o_62 (Nn o_84 (Lf o_119) (Lf o_153)) (Nn o_103 (Lf o_43) (Lf o_169)))) (Nn o_46 (Nn o_43 (Nn o_77 (Lf o_115) (Lf o_147)) (Nn o_99 (Lf o_43) (Lf o_43))) (Nn o_69 (Nn o_88 (Lf o_123) (Lf o_157)) (Nn o_107 (Lf o_139) Ze)))))
def t3 : PT := Nn boot_o_0 (Nn boot_o_1 (Nn o_397 (Nn boot_o_7 (Nn o_51 (Nn o_43 (Nn o_108 (Nn o_176 (Lf o_304) Ze) (Lf o_240)) (Nn o_140 (Lf o_208) (Lf o_272))) (Nn o_43 (Nn o_43 (Lf o_43) (Lf o_256)) (Nn o_43 (Lf o_43) (Lf o_44)))) (Nn o_59 (Nn o_78 (Nn o_43 (Lf o_43) (Lf o_43)) (Nn o_148 (Lf o_216) (Lf o_43))) (Nn o_43 (Nn o_132 (Lf o_200) (Lf o_264)) (Nn o_44 (Lf o_44) (Lf o_296))))) (Nn o_43 (Nn o_44 (Nn o_43 (Nn o_43 (Lf o_180) (Lf o_244)) (Nn o_144 (Lf o_212) (Lf o_43))) (Nn o_93 (Nn o_43 (Lf o_43) (Lf o_44)) (Nn o_162 (Lf o_228) (Lf o_292)))) (Nn o_63 (Nn o_43 (Nn o_120 (Lf o_188) (Lf o_43)) (Nn o_43 (Lf o_43) (Lf o_284))) (Nn o_43 (Nn o_44 (Lf o_44) (Lf o_268)) (Nn o_170 (Lf o_236) (Lf o_300)))))) (Nn boot_o_5 (Nn boot_o_9 (Nn o_53 (Nn o_72 (Nn o_44 (Nn o_178 (Lf o_306) Ze) (Lf o_242)) (Nn o_43 (Lf o_43) (Lf o_44))) (Nn o_91 (Nn o_126 (Lf o_194) (Lf o_258)) (Nn o_160 (Lf o_226) (Lf o_43)))) (Nn o_61 (Nn o_83 (Nn o_118 (Lf o_186) (Lf o_250)) (Nn o_44 (Lf o_44) (Lf o_282))) (Nn o_102 (Nn o_134 (Lf o_202) (Lf o_43)) (Nn o_43 (Lf o_43) (Lf o_298))))) (Nn o_45 (Nn o_57 (Nn o_76 (Nn o_114 (Lf o_44) (Lf o_44)) (Nn o_146 (Lf o_214) (Lf o_278))) (Nn o_83 (Nn o_130 (Lf o_198) (Lf o_43)) (Nn o_164 (Lf o_230) (Lf o_43)))) (Nn o_83 (Nn o_87 (Nn o_44 (Lf o_44) (Lf o_254)) (Nn o_156 (Lf o_222) (Lf o_286))) (Nn o_106 (Nn o_43 (Lf o_43) (Lf o_270)) (Nn o_43 (Lf o_43) (Lf o_302))))))) (Nn boot_o_2 (Nn boot_o_4 (Nn boot_o_8 (Nn o_83 (Nn o_44 (Nn o_43 (Nn o_43 (Lf o_305) Ze) (Lf o_43)) (Nn o_141 (Lf o_209) (Lf o_43))) (Nn o_90 (Nn o_125 (Lf o_193) (Lf o_257)) (Nn o_44 (Lf o_44) (Lf o_289)))) (Nn o_96 (Nn o_82 (Nn o_44 (Lf o_185) (Lf o_249)) (Nn o_43 (Lf o_43) (Lf o_44))) (Nn o_44 (Nn o_133 (Lf o_201) (Lf o_265)) (Nn o_167 (Lf o_233) (Lf o_43))))) (Nn o_173 (Nn o_56 (Nn o_75 (Nn o_113 (Lf o_43) (Lf o_43)) (Nn o_43 (Lf o_43) (Lf o_277))) (Nn o_82 (Nn o_44 (Lf o_44) (Lf o_261)) (Nn o_163 (Lf o_229) (Lf o_293)))) (Nn o_82 (Nn o_44 (Nn o_43 (Lf o_43) (Lf o_44)) (Nn o_155 (Lf o_221) (Lf o_285))) (Nn o_105 (Nn o_137 (Lf o_205) (Lf o_43)) (Nn o_171 (Lf o_237) (Lf o_301)))))) (Nn boot_o_6 (Nn boot_o_10 (Nn o_43 (Nn o_73 (Nn o_111 (Nn o_179 (Lf o_307) Ze) (Lf o_243)) (Nn o_44 (Lf o_44) (Lf o_275))) (Nn o_92 (Nn o_127 (Lf o_195) (Lf o_43)) (Nn o_43 (Lf o_43) (Lf o_291)))) (Nn o_62 (Nn o_84 (Nn o_119 (Lf o_187) (Lf o_251)) (Nn o_153 (Lf o_219) (Lf o_43))) (Nn o_103 (Nn o_43 (Lf o_43) (Lf o_44)) (Nn o_169 (Lf o_235) (Lf o_299))))) (Nn o_46 (Nn o_43 (Nn o_77 (Nn o_115 (Lf o_183) (Lf o_247)) (Nn o_147 (Lf o_215) (Lf o_279))) (Nn o_99 (Nn o_43 (Lf o_43) (Lf o_263)) (Nn o_43 (Lf o_43) (Lf o_44)))) (Nn o_69 (Nn o_88 (Nn o_123 (Lf o_191) (Lf o_43)) (Nn o_157 (Lf o_223) (Lf o_43))) (Nn o_107 (Nn o_139 (Lf o_207) (Lf o_271)) (Nn o_83 (Lf o_44) (Lf o_303)))))))
def t4 : PT := Nn boot_o_0 (Nn boot_o_1 (Nn o_478 (Nn boot_o_7 (Nn o_51 (Nn o_43 (Nn o_108 (Nn o_176 (Lf o_304) (Lf o_44)) (Nn o_240 (Lf o_43) Ze)) (Nn o_140 (Nn o_208 (Lf o_430) (Lf o_560)) (Nn o_272 (Lf o_496) Ze))) (Nn o_43 (Nn o_43 (Nn o_43 (Lf o_414) (Lf o_43)) (Nn o_256 (Lf o_43) Ze)) (Nn o_43 (Nn o_43 (Lf o_44) Ze) (Nn o_44 (Lf o_512) Ze)))) (Nn o_59 (Nn o_78 (Nn o_43 (Nn o_43 (Lf o_406) (Lf o_536)) (Nn o_43 (Lf o_470) Ze)) (Nn o_148 (Nn o_216 (Lf o_43) (Lf o_568)) (Nn o_43 (Lf o_504) Ze))) (Nn o_43 (Nn o_132 (Nn o_200 (Lf o_422) (Lf o_552)) (Nn o_264 (Lf o_44) Ze)) (Nn o_44 (Nn o_44 (Lf o_454) Ze) (Nn o_296 (Lf o_43) Ze))))) (Nn o_43 (Nn o_44 (Nn o_43 (Nn o_43 (Nn o_180 (Lf o_402) (Lf o_532)) (Nn o_244 (Lf o_43) Ze)) (Nn o_144 (Nn o_212 (Lf o_43) (Lf o_564)) (Nn o_43 (Lf o_500) Ze))) (Nn o_93 (Nn o_43 (Nn o_43 (Lf o_44) (Lf o_43)) (Nn o_44 (Lf o_484) Ze)) (Nn o_162 (Nn o_228 (Lf o_450) Ze) (Nn o_292 (Lf o_43) Ze)))) (Nn o_63 (Nn o_43 (Nn o_120 (Nn o_188 (Lf o_44) (Lf o_540)) (Nn o_43 (Lf o_474) Ze)) (Nn o_43 (Nn o_43 (Lf o_442) Ze) (Nn o_284 (Lf o_508) Ze))) (Nn o_43 (Nn o_44 (Nn o_44 (Lf o_426) (Lf o_44)) (Nn o_268 (Lf o_492) Ze)) (Nn o_170 (Nn o_236 (Lf o_458) Ze) (Nn o_300 (Lf o_524) Ze)))))) (Nn boot_o_5 (Nn boot_o_9 (Nn o_53 (Nn o_72 (Nn o_44 (Nn o_178 (Lf o_306) (Lf o_43)) (Nn o_242 (Lf o_464) Ze)) (Nn o_43 (Nn o_43 (Lf o_44) (Lf o_43)) (Nn o_44 (Lf o_498) Ze))) (Nn o_91 (Nn o_126 (Nn o_194 (Lf o_416) (Lf o_546)) (Nn o_258 (Lf o_482) Ze)) (Nn o_160 (Nn o_226 (Lf o_43) Ze) (Nn o_43 (Lf o_44) Ze)))) (Nn o_61 (Nn o_83 (Nn o_118 (Nn o_186 (Lf o_408) (Lf o_538)) (Nn o_250 (Lf o_472) Ze)) (Nn o_44 (Nn o_44 (Lf o_440) Ze) (Nn o_282 (Lf o_43) Ze))) (Nn o_102 (Nn o_134 (Nn o_202 (Lf o_43) (Lf o_554)) (Nn o_43 (Lf o_43) Ze)) (Nn o_43 (Nn o_43 (Lf o_456) Ze) (Nn o_298 (Lf o_522) Ze))))) (Nn o_45 (Nn o_57 (Nn o_76 (Nn o_114 (Nn o_44 (Lf o_404) (Lf o_43)) (Nn o_44 (Lf o_468) Ze)) (Nn o_146 (Nn o_214 (Lf o_436) (Lf o_566)) (Nn o_278 (Lf o_44) Ze))) (Nn o_83 (Nn o_130 (Nn o_198 (Lf o_43) (Lf o_550)) (Nn o_43 (Lf o_486) Ze)) (Nn o_164 (Nn o_230 (Lf o_43) Ze) (Nn o_43 (Lf o_518) Ze)))) (Nn o_83 (Nn o_87 (Nn o_44 (Nn o_44 (Lf o_43) (Lf o_44)) (Nn o_254 (Lf o_476) Ze)) (Nn o_156 (Nn o_222 (Lf o_444) Ze) (Nn o_286 (Lf o_510) Ze))) (Nn o_106 (Nn o_43 (Nn o_43 (Lf o_428) (Lf o_43)) (Nn o_270 (Lf o_43) Ze)) (Nn o_43 (Nn o_43 (Lf o_44) Ze) (Nn o_302 (Lf o_526) Ze))))))) (Nn boot_o_2 (Nn boot_o_4 (Nn boot_o_8 (Nn o_83 (Nn o_44 (Nn o_43 (Nn o_43 (Lf o_305) (Lf o_529)) (Nn o_43 (Lf o_463) Ze)) (Nn o_141 (Nn o_209 (Lf o_43) (Lf o_561)) (Nn o_43 (Lf o_43) Ze))) (Nn o_90 (Nn o_125 (Nn o_193 (Lf o_415) (Lf o_545)) (Nn o_257 (Lf o_44) Ze)) (Nn o_44 (Nn o_44 (Lf o_447) Ze) (Nn o_289 (Lf o_43) Ze)))) (Nn o_96 (Nn o_82 (Nn o_44 (Nn o_185 (Lf o_407) (Lf o_43)) (Nn o_249 (Lf o_471) Ze)) (Nn o_43 (Nn o_43 (Lf o_44) Ze) (Nn o_44 (Lf o_505) Ze))) (Nn o_44 (Nn o_133 (Nn o_201 (Lf o_423) (Lf o_553)) (Nn o_265 (Lf o_489) Ze)) (Nn o_167 (Nn o_233 (Lf o_43) Ze) (Nn o_43 (Lf o_44) Ze))))) (Nn o_479 (Nn o_56 (Nn o_75 (Nn o_113 (Nn o_43 (Lf o_83) (Lf o_533)) (Nn o_43 (Lf o_44) Ze)) (Nn o_43 (Nn o_43 (Lf o_435) (Lf o_43)) (Nn o_277 (Lf o_43) Ze))) (Nn o_82 (Nn o_44 (Nn o_44 (Lf o_419) (Lf o_44)) (Nn o_261 (Lf o_485) Ze)) (Nn o_163 (Nn o_229 (Lf o_451) Ze) (Nn o_293 (Lf o_517) Ze)))) (Nn o_82 (Nn o_44 (Nn o_43 (Nn o_43 (Lf o_411) (Lf o_43)) (Nn o_44 (Lf o_475) Ze)) (Nn o_155 (Nn o_221 (Lf o_443) Ze) (Nn o_285 (Lf o_43) Ze))) (Nn o_105 (Nn o_137 (Nn o_205 (Lf o_43) (Lf o_557)) (Nn o_43 (Lf o_493) Ze)) (Nn o_171 (Nn o_237 (Lf o_43) Ze) (Nn o_301 (Lf o_525) Ze)))))) (Nn boot_o_6 (Nn boot_o_10 (Nn o_43 (Nn o_73 (Nn o_111 (Nn o_179 (Lf o_307) (Lf o_531)) (Nn o_243 (Lf o_465) Ze)) (Nn o_44 (Nn o_44 (Lf o_433) (Lf o_44)) (Nn o_275 (Lf o_499) Ze))) (Nn o_92 (Nn o_127 (Nn o_195 (Lf o_43) (Lf o_547)) (Nn o_43 (Lf o_43) Ze)) (Nn o_43 (Nn o_43 (Lf o_449) Ze) (Nn o_291 (Lf o_515) Ze)))) (Nn o_62 (Nn o_84 (Nn o_119 (Nn o_187 (Lf o_43) (Lf o_539)) (Nn o_251 (Lf o_473) Ze)) (Nn o_153 (Nn o_219 (Lf o_43) Ze) (Nn o_43 (Lf o_44) Ze))) (Nn o_103 (Nn o_43 (Nn o_43 (Lf o_44) (Lf o_43)) (Nn o_44 (Lf o_491) Ze)) (Nn o_169 (Nn o_235 (Lf o_457) Ze) (Nn o_299 (Lf o_43) Ze))))) (Nn o_46 (Nn o_43 (Nn o_77 (Nn o_115 (Nn o_183 (Lf o_43) (Lf o_44)) (Nn o_247 (Lf o_43) Ze)) (Nn o_147 (Nn o_215 (Lf o_437) (Lf o_567)) (Nn o_279 (Lf o_503) Ze))) (Nn o_99 (Nn o_43 (Nn o_43 (Lf o_421) (Lf o_43)) (Nn o_263 (Lf o_43) Ze)) (Nn o_43 (Nn o_43 (Lf o_44) Ze) (Nn o_44 (Lf o_519) Ze)))) (Nn o_69 (Nn o_88 (Nn o_123 (Nn o_191 (Lf o_413) (Lf o_543)) (Nn o_43 (Lf o_477) Ze)) (Nn o_157 (Nn o_223 (Lf o_43) Ze) (Nn o_43 (Lf o_511) Ze))) (Nn o_107 (Nn o_139 (Nn o_207 (Lf o_429) (Lf o_559)) (Nn o_271 (Lf o_44) Ze)) (Nn o_83 (Nn o_44 (Lf o_461) Ze) (Nn o_401 (Lf o_43) Ze)))))))
def t5 : PT := Nn boot_o_0 (Nn boot_o_1 (Nn o_569 (Nn boot_o_7 (Nn o_51 (Nn o_43 (Nn o_108 (Nn o_176 (Lf o_304) (Lf o_44)) (Nn o_240 (Lf o_43) (Lf o_594))) (Nn o_140 (Nn o_208 (Lf o_430) (Lf o_560)) (Nn o_272 (Lf o_496) Ze))) (Nn o_43 (Nn o_43 (Nn o_43 (Lf o_414) (Lf o_43)) (Nn o_256 (Lf o_43) (Lf o_610))) (Nn o_43 (Nn o_43 (Lf o_44) (Lf o_43)) (Nn o_44 (Lf o_512) Ze)))) (Nn o_59 (Nn o_78 (Nn o_43 (Nn o_43 (Lf o_406) (Lf o_536)) (Nn o_43 (Lf o_470) (Lf o_602))) (Nn o_148 (Nn o_216 (Lf o_43) (Lf o_568)) (Nn o_43 (Lf o_504) Ze))) (Nn o_43 (Nn o_132 (Nn o_200 (Lf o_422) (Lf o_552)) (Nn o_264 (Lf o_44) (Lf o_618))) (Nn o_44 (Nn o_44 (Lf o_454) (Lf o_44)) (Nn o_296 (Lf o_43) Ze))))) (Nn o_43 (Nn o_44 (Nn o_43 (Nn o_43 (Nn o_180 (Lf o_402) (Lf o_532)) (Nn o_244 (Lf o_43) (Lf o_598))) (Nn o_144 (Nn o_212 (Lf o_43) (Lf o_564)) (Nn o_43 (Lf o_500) Ze))) (Nn o_93 (Nn o_43 (Nn o_43 (Lf o_44) (Lf o_43)) (Nn o_44 (Lf o_484) (Lf o_614))) (Nn o_162 (Nn o_228 (Lf o_450) (Lf o_582)) (Nn o_292 (Lf o_43) Ze)))) (Nn o_63 (Nn o_43 (Nn o_120 (Nn o_188 (Lf o_44) (Lf o_540)) (Nn o_43 (Lf o_474) (Lf o_44))) (Nn o_43 (Nn o_43 (Lf o_442) (Lf o_43)) (Nn o_284 (Lf o_508) Ze))) (Nn o_43 (Nn o_44 (Nn o_44 (Lf o_426) (Lf o_44)) (Nn o_268 (Lf o_492) (Lf o_622))) (Nn o_170 (Nn o_236 (Lf o_458) (Lf o_43)) (Nn o_300 (Lf o_524) Ze)))))) (Nn boot_o_5 (Nn boot_o_9 (Nn o_53 (Nn o_72 (Nn o_44 (Nn o_178 (Lf o_306) (Lf o_43)) (Nn o_242 (Lf o_464) (Lf o_44))) (Nn o_43 (Nn o_43 (Lf o_44) (Lf o_43)) (Nn o_44 (Lf o_498) Ze))) (Nn o_91 (Nn o_126 (Nn o_194 (Lf o_416) (Lf o_546)) (Nn o_258 (Lf o_482) (Lf o_43))) (Nn o_160 (Nn o_226 (Lf o_43) (Lf o_580)) (Nn o_43 (Lf o_44) Ze)))) (Nn o_61 (Nn o_83 (Nn o_118 (Nn o_186 (Lf o_408) (Lf o_538)) (Nn o_250 (Lf o_472) (Lf o_604))) (Nn o_44 (Nn o_44 (Lf o_440) (Lf o_44)) (Nn o_282 (Lf o_43) Ze))) (Nn o_102 (Nn o_134 (Nn o_202 (Lf o_43) (Lf o_554)) (Nn o_43 (Lf o_43) (Lf o_44))) (Nn o_43 (Nn o_43 (Lf o_456) (Lf o_588)) (Nn o_298 (Lf o_522) Ze))))) (Nn o_45 (Nn o_57 (Nn o_76 (Nn o_114 (Nn o_44 (Lf o_404) (Lf o_43)) (Nn o_44 (Lf o_468) (Lf o_43))) (Nn o_146 (Nn o_214 (Lf o_436) (Lf o_566)) (Nn o_278 (Lf o_44) Ze))) (Nn o_83 (Nn o_130 (Nn o_198 (Lf o_43) (Lf o_550)) (Nn o_43 (Lf o_486) (Lf o_616))) (Nn o_164 (Nn o_230 (Lf o_43) (Lf o_584)) (Nn o_43 (Lf o_518) Ze)))) (Nn o_83 (Nn o_87 (Nn o_44 (Nn o_44 (Lf o_43) (Lf o_44)) (Nn o_254 (Lf o_476) (Lf o_43))) (Nn o_156 (Nn o_222 (Lf o_444) (Lf o_576)) (Nn o_286 (Lf o_510) Ze))) (Nn o_106 (Nn o_43 (Nn o_43 (Lf o_428) (Lf o_43)) (Nn o_270 (Lf o_43) Ze)) (Nn o_43 (Nn o_43 (Lf o_44) (Lf o_592)) (Nn o_302 (Lf o_526) Ze))))))) (Nn boot_o_2 (Nn boot_o_4 (Nn boot_o_8 (Nn o_83 (Nn o_44 (Nn o_43 (Nn o_43 (Lf o_305) (Lf o_529)) (Nn o_43 (Lf o_463) (Lf o_43))) (Nn o_141 (Nn o_209 (Lf o_43) (Lf o_561)) (Nn o_43 (Lf o_43) Ze))) (Nn o_90 (Nn o_125 (Nn o_193 (Lf o_415) (Lf o_545)) (Nn o_257 (Lf o_44) (Lf o_611))) (Nn o_44 (Nn o_44 (Lf o_447) (Lf o_44)) (Nn o_289 (Lf o_43) Ze)))) (Nn o_96 (Nn o_82 (Nn o_44 (Nn o_185 (Lf o_407) (Lf o_43)) (Nn o_249 (Lf o_471) (Lf o_603))) (Nn o_43 (Nn o_43 (Lf o_44) (Lf o_43)) (Nn o_44 (Lf o_505) Ze))) (Nn o_44 (Nn o_133 (Nn o_201 (Lf o_423) (Lf o_553)) (Nn o_265 (Lf o_489) (Lf o_43))) (Nn o_167 (Nn o_233 (Lf o_43) (Lf o_587)) (Nn o_43 (Lf o_44) Ze))))) (Nn o_570 (Nn o_56 (Nn o_75 (Nn o_113 (Nn o_43 (Lf o_83) (Lf o_533)) (Nn o_43 (Lf o_44) (Lf o_599))) (Nn o_43 (Nn o_43 (Lf o_435) (Lf o_43)) (Nn o_277 (Lf o_43) Ze))) (Nn o_82 (Nn o_44 (Nn o_44 (Lf o_419) (Lf o_44)) (Nn o_261 (Lf o_485) (Lf o_43))) (Nn o_163 (Nn o_229 (Lf o_451) (Lf o_583)) (Nn o_293 (Lf o_517) Ze)))) (Nn o_82 (Nn o_44 (Nn o_43 (Nn o_43 (Lf o_411) (Lf o_43)) (Nn o_44 (Lf o_475) (Lf o_607))) (Nn o_155 (Nn o_221 (Lf o_443) (Lf o_575)) (Nn o_285 (Lf o_43) Ze))) (Nn o_105 (Nn o_137 (Nn o_205 (Lf o_43) (Lf o_557)) (Nn o_43 (Lf o_493) (Lf o_623))) (Nn o_171 (Nn o_237 (Lf o_43) (Lf o_44)) (Nn o_301 (Lf o_525) Ze)))))) (Nn boot_o_6 (Nn boot_o_10 (Nn o_43 (Nn o_73 (Nn o_111 (Nn o_179 (Lf o_307) (Lf o_531)) (Nn o_243 (Lf o_465) (Lf o_597))) (Nn o_44 (Nn o_44 (Lf o_433) (Lf o_44)) (Nn o_275 (Lf o_499) Ze))) (Nn o_92 (Nn o_127 (Nn o_195 (Lf o_43) (Lf o_547)) (Nn o_43 (Lf o_43) (Lf o_44))) (Nn o_43 (Nn o_43 (Lf o_449) (Lf o_43)) (Nn o_291 (Lf o_515) Ze)))) (Nn o_62 (Nn o_84 (Nn o_119 (Nn o_187 (Lf o_43) (Lf o_539)) (Nn o_251 (Lf o_473) (Lf o_43))) (Nn o_153 (Nn o_219 (Lf o_43) (Lf o_573)) (Nn o_43 (Lf o_44) Ze))) (Nn o_103 (Nn o_43 (Nn o_43 (Lf o_44) (Lf o_43)) (Nn o_44 (Lf o_491) (Lf o_621))) (Nn o_169 (Nn o_235 (Lf o_457) (Lf o_589)) (Nn o_299 (Lf o_43) Ze))))) (Nn o_46 (Nn o_43 (Nn o_77 (Nn o_115 (Nn o_183 (Lf o_43) (Lf o_44)) (Nn o_247 (Lf o_43) (Lf o_44))) (Nn o_147 (Nn o_215 (Lf o_437) (Lf o_567)) (Nn o_279 (Lf o_503) Ze))) (Nn o_99 (Nn o_43 (Nn o_43 (Lf o_421) (Lf o_43)) (Nn o_263 (Lf o_43) (Lf o_617))) (Nn o_43 (Nn o_43 (Lf o_44) (Lf o_43)) (Nn o_44 (Lf o_519) Ze)))) (Nn o_69 (Nn o_88 (Nn o_123 (Nn o_191 (Lf o_413) (Lf o_543)) (Nn o_43 (Lf o_477) (Lf o_609))) (Nn o_157 (Nn o_223 (Lf o_43) (Lf o_577)) (Nn o_43 (Lf o_511) Ze))) (Nn o_107 (Nn o_139 (Nn o_207 (Lf o_429) (Lf o_559)) (Nn o_271 (Lf o_44) Ze)) (Nn o_83 (Nn o_44 (Lf o_461) (Lf o_593)) (Nn o_401 (Lf o_43) Ze)))))))
abbrev pr : Program := (PySem.Challenge.rw_leastasked_k06_whole_goings_walked).row.prog
def ev : Env := { scope := pr.main.scope, locals := mainNs, globals := mainNs, cells := [], code := Value.ref 13, frame := some 14 }
abbrev cd : Code := .body (behindTheImports pr) ev
abbrev z0 : Pos := { line := 0, col := 0, endLine := 0, endCol := 0 }
def l1 : List Stmt := [top 0, top 1, top 2, top 3]
def l2 : List Stmt := [top 4, top 5, top 6, top 7, top 8, top 9, top 10, top 11, top 12, top 13, top 14, top 15, top 16]
def l3 : List Stmt := [top 17, top 18]
def l4 : List Stmt := [top 19, top 20, top 21, top 22, top 23, top 24, top 25, top 26, top 27, top 28, top 29, top 30, top 31, top 32, top 33]
def l5 : List Stmt := [top 34, top 35, top 36, top 37, top 38, top 39, top 40, top 41, top 42]
theorem lAll : behindTheImports pr = l1 ++ (l2 ++ (l3 ++ (l4 ++ (l5 ++ ([]))))) := by kernel_rfl
set_option maxHeartbeats 0 in
theorem g0 (w : World) : (fun os => topGo treeTable pr w 11 (some (Value.ref 6)) 12 { heap := boot_heap w.params, drawn := boot_drawn, toks := boot_toks, os := os } (topStub pr)) = fun os => some ({ heap := h0 w.params, toks := 187, os := os }, { cur := denote treeTable cd, code := cd, pos := z0, stack := [topFrame z0] }) := by kernel_rfl
set_option maxHeartbeats 0 in
theorem b0 (w : World) : (fun os => segRun treeTable pr w 11 (some (Value.ref 6)) 1 1 { heap := h0 w.params, toks := 187, os := os } (blockOf (behindTheImports pr) ev cd z0 [topFrame z0])) = fun os => some (Flow.next, ({ tree := t0 w.params, n := 15, life := {}, gens := #[], drawn := {}, toks := 187, os := os } : SharedT).abs, cd, z0) := by kernel_rfl
set_option maxHeartbeats 0 in
theorem s1 (w : World) : (fun os => segRunT treeTable pr w 11 (some (Value.ref 6)) 1 624 { tree := t0 w.params, n := 15, life := {}, gens := #[], drawn := {}, toks := 187, os := os } (piecesOf l1 ev cd z0 [topFrame z0])) = fun os => some (Flow.next, { tree := t1 w.params, n := 52, life := {}, gens := #[], drawn := {}, toks := 239, os := os }, cd, ⟨6, 0, 7, 8⟩) := by kernel_rfl
set_option maxHeartbeats 0 in
theorem s2 (w : World) : (fun os => segRunT treeTable pr w 11 (some (Value.ref 6)) 1 509 { tree := t1 w.params, n := 52, life := {}, gens := #[], drawn := {}, toks := 239, os := os } (piecesOf l2 ev cd ⟨6, 0, 7, 8⟩ [topFrame z0])) = fun os => some (Flow.next, { tree := t2 w.params, n := 125, life := {}, gens := #[], drawn := {}, toks := 332, os := os }, cd, ⟨44, 0, 44, 8⟩) := by kernel_rfl
set_option maxHeartbeats 0 in
theorem s3 (w : World) : (fun os => segRunT treeTable pr w 11 (some (Value.ref 6)) 1 760 { tree := t2 w.params, n := 125, life := {}, gens := #[], drawn := {}, toks := 332, os := os } (piecesOf l3 ev cd ⟨44, 0, 44, 8⟩ [topFrame z0])) = fun os => some (Flow.next, { tree := t3 w.params, n := 259, life := {}, gens := #[], drawn := {}, toks := 505, os := os }, cd, ⟨130, 0, 130, 8⟩) := by kernel_rfl
set_option maxHeartbeats 0 in
theorem s4 (w : World) : (fun os => segRunT treeTable pr w 11 (some (Value.ref 6)) 1 911 { tree := t3 w.params, n := 259, life := {}, gens := #[], drawn := {}, toks := 505, os := os } (piecesOf l4 ev cd ⟨130, 0, 130, 8⟩ [topFrame z0])) = fun os => some (Flow.next, { tree := t4 w.params, n := 424, life := {}, gens := #[], drawn := {}, toks := 710, os := os }, cd, ⟨244, 0, 245, 95⟩) := by kernel_rfl
set_option maxHeartbeats 0 in
theorem s5 (w : World) : (fun os => segRunT treeTable pr w 11 (some (Value.ref 6)) 1 266 { tree := t4 w.params, n := 424, life := {}, gens := #[], drawn := {}, toks := 710, os := os } (piecesOf l5 ev cd ⟨244, 0, 245, 95⟩ [topFrame z0])) = fun os => some (Flow.next, { tree := t5 w.params, n := 477, life := {}, gens := #[], drawn := {}, toks := 787, os := os }, cd, ⟨319, 0, 354, 146⟩) := by kernel_rfl
def h1 : Params → Heap := fun P => ({ tree := t5 P, n := 477, life := {}, gens := #[], drawn := {}, toks := 787, os := default } : SharedT).abs.heap
set_option maxHeartbeats 0 in
theorem e0 (w : World) (os : OsState) : topRun treeTable pr w 11 (some (Value.ref 6)) 2 ({ tree := t5 w.params, n := 477, life := {}, gens := #[], drawn := {}, toks := 787, os := os } : SharedT).abs (restOf [] ev cd ⟨319, 0, 354, 146⟩ [topFrame z0]) = some { heap := h1 w.params, toks := 787, os := os } := piece_nil (by kernel_rfl)
theorem run1 (w : World) (os : OsState) : topRun treeTable pr w 11 (some (Value.ref 6)) (624 + (509 + (760 + (911 + (266 + (2)))))) ({ tree := t0 w.params, n := 15, life := {}, gens := #[], drawn := {}, toks := 187, os := os } : SharedT).abs (restOf (l1 ++ (l2 ++ (l3 ++ (l4 ++ (l5 ++ ([])))))) ev cd z0 [topFrame z0]) = some { heap := h1 w.params, toks := 787, os := os } := piece_app (segRun_of (congrFun (s1 w) os)) (piece_app (segRun_of (congrFun (s2 w) os)) (piece_app (segRun_of (congrFun (s3 w) os)) (piece_app (segRun_of (congrFun (s4 w) os)) (piece_app (segRun_of (congrFun (s5 w) os)) (e0 w os)))))
theorem run0 (w : World) (os : OsState) : topRun treeTable pr w 11 (some (Value.ref 6)) (12 + (1 + (624 + (509 + (760 + (911 + (266 + (2)))))))) { heap := boot_heap w.params, drawn := boot_drawn, toks := boot_toks, os := os } (topStub pr) = some { heap := h1 w.params, toks := 787, os := os } := by
  refine go_top (congrFun (g0 w) os) (piece_block (congrFun (b0 w) os) ?_)
  rw [lAll]
  exact run1 w os
set_option maxHeartbeats 0 in
theorem q0 (w : World) : Option.map (fun s => (s.heap, s.gens, s.drawn, s.toks)) (fencedOpening treeTable pr w 6270) = some (boot_heap w.params, #[], boot_drawn, boot_toks) := by kernel_rfl
set_option maxHeartbeats 0 in
theorem q1 (w : World) : ((boot_heap w.params).isNs mainGlobals && (#[] : Array GenState).size == 0, (boot_heap w.params).objs.size, (boot_heap w.params).nsMap mainGlobals (Str.ofString "__annotations__")) = (true, 11, some (Value.ref 6)) := by kernel_rfl
set_option maxHeartbeats 0 in
theorem q2 (w : World) : (fun os => staticsOk (importedModules pr.main.body) (boot_heap w.params) (h1 w.params) && namesBound pr (h1 w.params) && gensDone ({ heap := h1 w.params, gens := #[], drawn := {}, toks := 787, os := os } : Shared) && laidKept (boot_heap w.params) (h1 w.params)) = fun _ => true := by kernel_rfl
set_option maxHeartbeats 0 in
theorem q3 (w : World) : (fun os => openSeen view ["Shelf"] (importedModules pr.main.body) seenX true { heap := h1 w.params, gens := #[], drawn := {}, toks := 787, os := os }) = fun _ => openGood view ["Shelf"] := by kernel_rfl
set_option maxHeartbeats 0 in
theorem q4 (w : World) : (fun os => hook.obs { heap := h1 w.params, gens := #[], drawn := {}, toks := 787, os := os }) = fun _ => hook.val w := by kernel_rfl
theorem left : LeftO pr view ["Shelf"] seenX hook.obs hook.val 6270 :=
  LeftO.of_pieces (H₀ := fun P => boot_heap P) (H₁ := h1) (gs₀ := #[]) (gs₁ := #[]) (d₀ := boot_drawn) (d₁ := {}) (k₀ := boot_toks) (k₁ := 787) (m₀ := 11) (ann := some (Value.ref 6)) (M := 12 + (1 + (624 + (509 + (760 + (911 + (266 + (2)))))))) q0 q1 run0 (by decide)
    fun w => funext fun os => looks_pair (congrFun (q2 w) os) (looks_pair (congrFun (q3 w) os) (congrFun (q4 w) os))
end
end Lk

/-! THE HAND LAYER, for ints, bools, texts, own classes, LISTS and tuples (index, slices, in, append, pop ..), calls, loops. Paste it whole ahead of your own text; what your proof does not reach may be deleted. -/
namespace L2
open PySem PySem.Spec PyProof.Rows

/-- a key: an int or a str -/
abbrev Key := Sum Int Str
def keyIs : Key → Value → Bool
  | .inl k, v => Value.isInt k v
  | .inr x, v => Value.isStrOf x v
def keyH (w : World) : Key → Int
  | .inl k => hashInt k
  | .inr x => hashStr w x
theorem keyIs_shape : ∀ {k : Key} {v : Value}, keyIs k v = true → (∃ i t, k = Sum.inl i ∧ v = Value.int i t) ∨ (∃ x t, k = Sum.inr x ∧ v = Value.str x t)
  | .inl i, v, h => by
    obtain ⟨t, e⟩ := Value.isInt_shape (k := i) (v := v) h
    exact .inl ⟨i, t, rfl, e⟩
  | .inr x, v, h => by
    obtain ⟨t, e⟩ := Value.isStrOf_shape (x := x) (v := v) h
    exact .inr ⟨x, t, rfl, e⟩
theorem keyIs_int (i : Int) (t : Tok) : keyIs (.inl i) (.int i t) = true := by simp [keyIs, Value.isInt]
theorem keyIs_str (x : Str) (t : Tok) : keyIs (.inr x) (.str x t) = true := by simp [keyIs, Value.isStrOf]
theorem key_ll (a b : Int) : decide ((Sum.inl a : Key) = Sum.inl b) = (a == b) := by
  by_cases e : a = b
  · subst e; simp
  · have h : ¬ (Sum.inl a : Key) = Sum.inl b := fun q => e (Sum.inl.inj q)
    rw [decide_eq_false h]
    exact (beq_eq_false_iff_ne.mpr e).symm
theorem key_rr (a b : Str) : decide ((Sum.inr a : Key) = Sum.inr b) = decide (a = b) := by
  by_cases e : a = b
  · subst e; simp
  · have h : ¬ (Sum.inr a : Key) = Sum.inr b := fun q => e (Sum.inr.inj q)
    rw [decide_eq_false h, decide_eq_false e]
theorem key_lr (a : Int) (b : Str) : decide ((Sum.inl a : Key) = Sum.inr b) = false := decide_eq_false (fun q => nomatch q)
theorem key_rl (a : Str) (b : Int) : decide ((Sum.inr a : Key) = Sum.inl b) = false := decide_eq_false (fun q => nomatch q)

def mixKind (prog : Program) (w : World) : PySem.KeyKind prog w Key where
  is := keyIs
  hash := keyH w
  inj := fun v a b ha hb => by
    rcases keyIs_shape ha with ⟨i, t, rfl, rfl⟩ | ⟨x, t, rfl, rfl⟩
    · rcases keyIs_shape hb with ⟨j, u, rfl, e⟩ | ⟨y, u, rfl, e⟩
      · injection e with e1 _; rw [e1]
      · exact nomatch e
    · rcases keyIs_shape hb with ⟨j, u, rfl, e⟩ | ⟨y, u, rfl, e⟩
      · exact nomatch e
      · injection e with e1 _; rw [e1]
  byValue := fun k v h => by
    rcases keyIs_shape h with ⟨i, t, rfl, rfl⟩ | ⟨x, t, rfl, rfl⟩ <;> rfl
  pyHash := fun hv h => by
    rcases keyIs_shape hv with ⟨i, t, rfl, rfl⟩ | ⟨x, t, rfl, rfl⟩
    · exact wpAny_pyHash_int h
    · exact wpAny_pyHash_str h
  eqBool := fun hu hv h => by
    rcases keyIs_shape hu with ⟨i, t, rfl, rfl⟩ | ⟨x, t, rfl, rfl⟩
    · rcases keyIs_shape hv with ⟨j, u, rfl, rfl⟩ | ⟨y, u, rfl, rfl⟩
      · rw [key_ll] at h; exact wpAny_eqBool_int h
      · rw [key_lr] at h; exact SeqAt.EqAt.int_str i t y u _ _ _ _ h
    · rcases keyIs_shape hv with ⟨j, u, rfl, rfl⟩ | ⟨y, u, rfl, rfl⟩
      · rw [key_rl] at h; exact SeqAt.EqAt.str_int x t j u _ _ _ _ h
      · rw [key_rr] at h; exact wpAny_eqBool_str h
  «strs» := fun k x t v h => by
    rcases keyIs_shape h with ⟨i, u, rfl, e⟩ | ⟨y, u, rfl, e⟩
    · exact nomatch e
    · injection e with e1 _
      subst e1
      cases v <;> rfl

theorem mixKind_int (prog : Program) (w : World) (i : Int) (t : Tok) : (mixKind prog w).is (.inl i) (.int i t) = true := keyIs_int i t
theorem mixKind_str (prog : Program) (w : World) (x : Str) (t : Tok) : (mixKind prog w).is (.inr x) (.str x t) = true := keyIs_str x t
end L2

namespace L2
open PySem PySem.Spec PyProof.Rows

/-- a value, without the heap -/
inductive V where
  | non | bl (b : Bool) | int (i : Int) | str (x : Str) | byt (b : Array UInt8) | flt (b : UInt64) | ref (a : Addr) | ty (n : String)
  deriving DecidableEq

def RelV : V → Value → Prop
  | .non, u => u = Value.none
  | .bl b, u => u = Value.bool b
  | .int i, u => ∃ t, u = Value.int i t
  | .str x, u => ∃ t, u = Value.str x t
  | .byt b, u => ∃ t, u = Value.bytes b t
  | .flt b, u => ∃ t, u = Value.float b t
  | .ref a, u => u = Value.ref a
  | .ty n, u => u = Value.type n

abbrev Vals : List V → List Value → Prop := Paired RelV
theorem Vals.length {xs : List V} {us : List Value} (r : Vals xs us) : xs.length = us.length := Paired.length r
theorem Vals.get : ∀ {xs : List V} {us : List Value} {i : Nat} {x : V}, Vals xs us → xs[i]? = some x → ∃ u, us[i]? = some u ∧ RelV x u
  | _, _, _, _, .nil, e => by simp at e
  | _, _, 0, _, .cons r _, e => by simp at e; subst e; exact ⟨_, rfl, r⟩
  | _, _, i + 1, x, .cons _ t, e => by
    obtain ⟨u, h1, h2⟩ := Vals.get (i := i) (x := x) t (by simpa using e)
    exact ⟨u, by simpa using h1, h2⟩
theorem Vals.append : ∀ {xs ys : List V} {us ws : List Value}, Vals xs us → Vals ys ws → Vals (xs ++ ys) (us ++ ws)
  | _, _, _, _, .nil, s => s
  | _, _, _, _, .cons r t, s => .cons r (Vals.append t s)
theorem Vals.take : ∀ {xs : List V} {us : List Value} (n : Nat), Vals xs us → Vals (xs.take n) (us.take n)
  | _, _, 0, _ => .nil
  | _, _, _ + 1, .nil => .nil
  | _, _, n + 1, .cons r t => .cons r (Vals.take n t)
theorem Vals.drop : ∀ {xs : List V} {us : List Value} (n : Nat), Vals xs us → Vals (xs.drop n) (us.drop n)
  | _, _, 0, r => r
  | _, _, _ + 1, .nil => .nil
  | _, _, n + 1, .cons _ t => Vals.drop n t

def RelO : Option V → Option Value → Prop
  | some v, some u => RelV v u
  | none, none => True
  | _, _ => False
def KV {κ : Type} : List (κ × V) → List (κ × Value) → Prop := Paired fun (p : κ × V) (q : κ × Value) => p.1 = q.1 ∧ RelV p.2 q.2

/-- a key of a dict (00_mix): an int or a text -/
def kV : Key → V
  | .inl i => .int i
  | .inr x => .str x

/-- what stands at a tracked address -/
inductive HO where
  /-- a list -/
  | lst (xs : List V)
  /-- a tuple (never changes) -/
  | tup (xs : List V)
  /-- a dict whose keys are ints and texts; one whose keys are tuples of ints and texts (the empty one is both) -/
  | dK (kvs : List (Key × V)) | dT (kvs : List (List Key × V))
  /-- a set of ints: its members, its size -/
  | set (S : Int → Bool) (n : Nat)
  /-- an instance of the class at C, its dict at dx, its attributes -/
  | ins (C dx : Addr) (fs : List (Str × V))
  /-- the dict of the instance at x -/
  | own (x : Addr)
  /-- the dict of an exception -/
  | xd (fs : List (Str × V))
  /-- a bound method, f of x -/
  | met (f x : Addr)
  /-- a range object lo, lo + 1, .. below hi -/
  | rng (lo hi : Int)
  /-- a thing that is known to the object (the script; a dict while a loop walks it): read, never written while it is so -/
  | frz (o : Obj) (u : HO)
  /-- a code object's table -/
  | tbl (ps : Array Value)
  /-- any other thing, by what is true of its one object (a def of one's own: SetO a S n := HO.ext fun h => ..) -/
  | ext (φ : Heap → Prop)

abbrev Hp := Addr → Option HO
def upd (H : Hp) (a : Addr) (o : HO) : Hp := fun b => if b = a then some o else H b
theorem upd_same {H : Hp} {a : Addr} {o : HO} : upd H a o a = some o := by unfold upd; rw [if_pos rfl]
theorem upd_ne {H : Hp} {a b : Addr} {o : HO} (h : b ≠ a) : upd H a o b = H b := by unfold upd; rw [if_neg h]
theorem upd_upd {H : Hp} {a : Addr} {o u : HO} : upd (upd H a o) a u = upd H a u := by
  funext b; unfold upd; split <;> rfl
/-- two objects of different content stand apart -/
theorem ne_of {H : Hp} {a b : Addr} {o u : HO} (h : H a = some o) (h' : H b = some u) (d : o ≠ u) : a ≠ b := by
  intro e; subst e; rw [h] at h'; exact d (Option.some.inj h')
theorem ne_of_none {H : Hp} {a b : Addr} {o : HO} (h : H a = some o) (h' : H b = none) : a ≠ b := by
  intro e; subst e; rw [h] at h'; cases h'

section
variable (P : Program) (w : World)
def ObjOk (H : Hp) (h : Heap) (a : Addr) : HO → Prop
  | .lst xs => xs.length ≤ sizeLine ∧ ∃ (its : List Value) (n : Nat), Vals xs its ∧ h.get? a = some { cls := .type "list", data := .seq its.toArray n }
  | .tup xs => xs.length ≤ sizeLine ∧ ∃ its : List Value, Vals xs its ∧ IsTup h a its.toArray
  | .dK kvs => kvs.length ≤ sizeLine ∧ (a == sysModules) = false ∧ ∃ vs, KV kvs vs ∧ h.DictOf (mixKind P w) a vs
  | .dT kvs => kvs.length ≤ sizeLine ∧ (a == sysModules) = false ∧ ∃ xs : List (List Key × Addr × Value),
      Paired (fun (p : List Key × V) (q : List Key × Addr × Value) => p.1 = q.1 ∧ H q.2.1 = some (.tup (p.1.map kV)) ∧ RelV p.2 q.2.2) kvs xs ∧
      ∃ o es ep, h.get? a = some o ∧ o.ExactDict ∧ o.data = .dict es ep ∧ es.toList = xs.map (entryOfKey (tupleKind (mixKind P w))) ∧ (xs.map (·.1)).Nodup
  | .set S n => h.SetOf (intKind P w) a S n
  | .ins C dx fs => H dx = some (.own a) ∧ fs.length ≤ 1000 ∧ dx ≠ a ∧ h.get? a = some (PySem.W.instObj C dx) ∧
      ∃ mA, h.Ns1 dx mA ∧ (∀ f, RelO (fs.lookup f) (mA f)) ∧ PySem.Within mA (fs.map (·.1))
  | .own _ => ∃ o, h.get? a = some o
  | .xd fs => ∃ mA, h.Ns1 a mA ∧ ∀ f, RelO (fs.lookup f) (mA f)
  | .rng lo hi => ∃ t u v, h.get? a = some { cls := .type "range", data := .fields #[.int lo t, .int hi u, .int 1 v] }
  | .frz o u => h.get? a = some o ∧ ObjOk H h a u
  | .tbl ps => h.get? a = some { cls := .none, data := .fields ps }
  | .met f x => h.get? a = some (PySem.W.methodObj (.ref f) (.ref x))
  | .ext φ => φ h ∧ (∃ o, h.get? a = some o) ∧ ∀ h1 h2 : Heap, φ h1 → (∀ o, h1.get? a = some o → h2.get? a = some o) → φ h2
/-- the abstract heap is held -/
def HOk (H : Hp) (h : Heap) : Prop := ∀ a o, H a = some o → ObjOk P w H h a o
end

section
variable {P : Program} {w : World} {H H' : Hp} {h h' : Heap} {a : Addr} {o : HO}
theorem ObjOk.lt (x : ObjOk P w H h a o) : a < h.objs.size := by
  cases o with
  | lst xs => obtain ⟨_, _, _, _, e⟩ := x; exact Heap.lt_size e
  | tup xs => obtain ⟨_, _, _, p⟩ := x; exact p.lt
  | dK kvs => obtain ⟨_, _, _, _, o, _, _, e, _⟩ := x; exact Heap.lt_size e
  | dT kvs => obtain ⟨_, _, _, _, o, _, _, e, _⟩ := x; exact Heap.lt_size e
  | set S n => obtain ⟨o, _, _, _, e, _⟩ := x; exact Heap.lt_size e
  | ins C dx fs => obtain ⟨_, _, _, e, _⟩ := x; exact Heap.lt_size e
  | own y => obtain ⟨_, e⟩ := x; exact Heap.lt_size e
  | xd fs => obtain ⟨_, ⟨_, _, _, e, _⟩, _⟩ := x; exact Heap.lt_size e
  | rng lo hi => obtain ⟨_, _, _, e⟩ := x; exact Heap.lt_size e
  | frz ob u => obtain ⟨e, _⟩ := x; exact Heap.lt_size e
  | tbl ps => exact Heap.lt_size (show h.get? a = some _ from x)
  | met f y => exact Heap.lt_size (show h.get? a = some _ from x)
  | ext φ => obtain ⟨_, ⟨_, e⟩, _⟩ := x; exact Heap.lt_size e
theorem Paired.mapP {α β : Type} {F G : α → β → Prop} : ∀ {l₁ : List α} {l₂ : List β}, Paired F l₁ l₂ → (∀ a b, F a b → G a b) → Paired G l₁ l₂
  | _, _, .nil, _ => .nil
  | _, _, .cons r t, f => .cons (f _ _ r) (Paired.mapP t f)
/-- what an object's description leans on: its own object, its own dict, the tuples -/
theorem ObjOk.stay (x : ObjOk P w H h a o) (k : ∀ b u, (b = a ∨ H b = some (.own a)) → h.get? b = some u → h'.get? b = some u)
    (ho : ∀ b, H b = some (.own a) → H' b = some (.own a)) (ht : ∀ b xs, H b = some (.tup xs) → H' b = some (.tup xs)) : ObjOk P w H' h' a o := by
  induction o with
  | lst xs => obtain ⟨z, its, n, r, e⟩ := x; exact ⟨z, its, n, r, k _ _ (.inl rfl) e⟩
  | tup xs => obtain ⟨z, its, r, ob, e, c⟩ := x; exact ⟨z, its, r, ob, k _ _ (.inl rfl) e, c⟩
  | dK kvs => obtain ⟨z, y, vs, r, ob, es, ep, e, c⟩ := x; exact ⟨z, y, vs, r, ob, es, ep, k _ _ (.inl rfl) e, c⟩
  | dT kvs =>
    obtain ⟨z, y, xs, r, ob, es, ep, e, c⟩ := x
    exact ⟨z, y, xs, Paired.mapP r fun p q z => ⟨z.1, ht _ _ z.2.1, z.2.2⟩, ob, es, ep, k _ _ (.inl rfl) e, c⟩
  | set S n => obtain ⟨ob, es, ep, t, e, c⟩ := x; exact ⟨ob, es, ep, t, k _ _ (.inl rfl) e, c⟩
  | ins C dx fs =>
    obtain ⟨d, z, ne, e, mA, ⟨od, es, ep, e2, c⟩, r⟩ := x
    exact ⟨ho _ d, z, ne, k _ _ (.inl rfl) e, mA, ⟨od, es, ep, k _ _ (.inr d) e2, c⟩, r⟩
  | own y => obtain ⟨ob, e⟩ := x; exact ⟨ob, k _ _ (.inl rfl) e⟩
  | xd fs => obtain ⟨mA, ⟨od, es, ep, e, c⟩, r⟩ := x; exact ⟨mA, ⟨od, es, ep, k _ _ (.inl rfl) e, c⟩, r⟩
  | rng lo hi => obtain ⟨t, u, v, e⟩ := x; exact ⟨t, u, v, k _ _ (.inl rfl) e⟩
  | frz ob u ih => obtain ⟨e, q⟩ := x; exact ⟨k _ _ (.inl rfl) e, ih q⟩
  | tbl ps =>
    have e : h.get? a = some { cls := .none, data := .fields ps } := x
    show h'.get? a = some { cls := .none, data := .fields ps }
    exact k a _ (.inl rfl) e
  | met f y =>
    have e : h.get? a = some (PySem.W.methodObj (.ref f) (.ref y)) := x
    show h'.get? a = some (PySem.W.methodObj (.ref f) (.ref y))
    exact k a _ (.inl rfl) e
  | ext φ => obtain ⟨p, ⟨o, e⟩, st⟩ := x; exact ⟨st _ _ p fun o q => k _ _ (.inl rfl) q, ⟨o, k _ _ (.inl rfl) e⟩, st⟩
theorem HOk.lt (x : HOk P w H h) (e : H a = some o) : a < h.objs.size := (x a o e).lt
theorem HOk.fresh (x : HOk P w H h) (e : h.objs.size ≤ a) : H a = none := by
  cases q : H a with
  | none => rfl
  | some u => exact absurd (Nat.lt_of_lt_of_le (x.lt q) e) (Nat.lt_irrefl _)
/-- every object of the heap is kept -/
theorem HOk.kept (x : HOk P w H h) (k : ∀ b u, h.get? b = some u → h'.get? b = some u) : HOk P w H h' := fun a o e =>
  (x a o e).stay (fun b u _ q => k b u q) (fun _ q => q) fun _ _ q => q
/-- a new object is laid and tracked -/
theorem HOk.laid (x : HOk P w H h) (k : ∀ b u, h.get? b = some u → h'.get? b = some u) (hp : h.objs.size ≤ a) (new : ObjOk P w (upd H a o) h' a o) : HOk P w (upd H a o) h' := fun b u e => by
  have hn := x.fresh hp
  by_cases hb : b = a
  · subst hb; rw [upd_same] at e; cases e; exact new
  · rw [upd_ne hb] at e
    exact (x b u e).stay (fun c v _ q => k c v q) (fun c q => by rw [upd_ne (ne_of_none q hn)]; exact q) fun c xs q => by rw [upd_ne (ne_of_none q hn)]; exact q
end

/-- what may be read as u: it is u, or a known u -/
def Rd (H : Hp) (a : Addr) (u : HO) : Prop := H a = some u ∨ ∃ o, H a = some (.frz o u)
theorem Rd.ok {P : Program} {w : World} {H : Hp} {h : Heap} {a : Addr} {u : HO} (r : Rd H a u) (x : HOk P w H h) : ObjOk P w H h a u := by
  rcases r with r | ⟨o, r⟩
  · exact x a u r
  · obtain ⟨_, q⟩ := x a _ r
    exact q
/-- what may be written -/
def Mut : Option HO → Prop
  | some (.lst _) => True
  | some (.dK _) => True
  | some (.dT _) => True
  | some (.set _ _) => True
  | some (.ins _ _ _) => True
  | some (.ext _) => True
  | _ => False
section
variable {P : Program} {w : World} {H : Hp} {h h' : Heap} {x e : Addr} {o' : HO}
/-- the object at e is changed: x itself, or the dict of the instance x -/
theorem HOk.write (ok : HOk P w H h) (mu : Mut (H x)) (he : e = x ∨ H e = some (.own x)) (k : ∀ b u, b ≠ e → h.get? b = some u → h'.get? b = some u) (heo : ∃ u, h'.get? e = some u)
    (new : ObjOk P w (upd H x o') h' x o') : HOk P w (upd H x o') h' := fun b u q => by
  have nown : ∀ c y, H c = some (.own y) → c ≠ x := fun c y r z => by subst z; rw [r] at mu; exact mu
  have ntup : ∀ c xs, H c = some (.tup xs) → c ≠ x := fun c xs r z => by subst z; rw [r] at mu; exact mu
  by_cases hb : b = x
  · subst hb; rw [upd_same] at q; cases q; exact new
  · rw [upd_ne hb] at q
    by_cases hbe : b = e
    · have q' : H b = some (.own x) := by
        rcases he with z | z
        · exact absurd (hbe.trans z) hb
        · rw [hbe]; exact z
      rw [q] at q'; cases q'
      obtain ⟨v, hv⟩ := heo
      exact ⟨v, by rw [hbe]; exact hv⟩
    · refine (ok b u q).stay (fun c v hc r => k c v ?_ r) (fun c r => by rw [upd_ne (nown c b r)]; exact r) fun c xs r => by rw [upd_ne (ntup c xs r)]; exact r
      rcases hc with rfl | hc
      · exact hbe
      · rintro rfl
        rcases he with z | z
        · exact nown c b hc z
        · rw [hc] at z; cases z; exact hb rfl
end

/-! ### kept unless tracked; of the frames at fs (the callers') the slots may change (an exception that passes writes there); of the records at ex (iterators) nothing is said -/
structure Un (fs ex : List Addr) (H H' : Hp) (h h' : Heap) : Prop where
  keep : ∀ b o, h.get? b = some o → H b = none → b ∉ fs → b ∉ ex → h'.get? b = some o
  slot : ∀ b o, h.get? b = some o → H b = none → b ∈ fs → b ∉ ex → ∃ sl, h'.get? b = some { o with slots := sl }
  free : ∀ b o, h.get? b = some o → H b = none → b ∉ ex → H' b = none
  there : ∀ b o, h.get? b = some o → b ∉ ex → ∃ o', h'.get? b = some o'
  tups : ∀ b xs, H b = some (.tup xs) → H' b = some (.tup xs)
  frzs : ∀ b o u, H b = some (.frz o u) → H' b = some (.frz o u)
  tbls : ∀ b ps, H b = some (.tbl ps) → ∃ more, H' b = some (.tbl (ps ++ more))
section
variable {fs fs' ex ex' : List Addr} {H H1 H2 : Hp} {h h1 h2 h' : Heap} {a x e : Addr} {o : HO}
theorem Un.any (u : Un fs ex H H1 h h1) {b : Addr} {ob : Obj} (q : h.get? b = some ob) (n : H b = none) (hx : b ∉ ex) : ∃ sl, h1.get? b = some { ob with slots := sl } := by
  by_cases hb : b ∈ fs
  · exact u.slot b ob q n hb hx
  · exact ⟨ob.slots, u.keep b ob q n hb hx⟩
theorem Un.kept (k : ∀ b u, h.get? b = some u → h'.get? b = some u) : Un fs ex H H h h' :=
  ⟨fun b ob q _ _ _ => k b ob q, fun b ob q _ _ _ => ⟨ob.slots, k b ob q⟩, fun _ _ _ n _ => n, fun b ob q _ => ⟨ob, k b ob q⟩, fun _ _ q => q, fun _ _ _ q => q, fun _ ps q => ⟨#[], by rw [q]; simp⟩⟩
theorem Un.refl : Un fs ex H H h h := Un.kept fun _ _ q => q
theorem Un.laid (k : ∀ b u, h.get? b = some u → h'.get? b = some u) (hp : h.objs.size ≤ a) (hn : H a = none) : Un fs ex H (upd H a o) h h' where
  keep := fun b u q _ _ _ => k b u q
  slot := fun b u q _ _ _ => ⟨u.slots, k b u q⟩
  free := fun b u q n _ => by rw [upd_ne (Nat.ne_of_lt (Nat.lt_of_lt_of_le (Heap.lt_size q) hp))]; exact n
  there := fun b u q _ => ⟨u, k b u q⟩
  tups := fun b xs q => by rw [upd_ne (ne_of_none q hn)]; exact q
  frzs := fun b u xs q => by rw [upd_ne (ne_of_none q hn)]; exact q
  tbls := fun b ps q => ⟨#[], by rw [upd_ne (ne_of_none q hn), q]; simp⟩
theorem Un.write (mu : Mut (H x)) (he : e = x ∨ H e = some (.own x)) (k : ∀ b u, b ≠ e → h.get? b = some u → h'.get? b = some u) (heo : ∃ u, h'.get? e = some u) : Un fs ex H (upd H x o) h h' := by
  have hx : ∀ b, H b = none → b ≠ x := fun b n z => by subst z; rw [n] at mu; exact mu
  have hb : ∀ b, H b = none → b ≠ e := fun b n z => by
    subst z
    rcases he with r | r
    · exact hx b n r
    · rw [n] at r; cases r
  have hm : ∀ b u, H b = some u → ¬ Mut (some u) → b ≠ x := fun b u q nm z => by subst z; rw [q] at mu; exact nm mu
  refine ⟨fun b u q n _ _ => k b u (hb b n) q, fun b u q n _ _ => ⟨u.slots, k b u (hb b n) q⟩, fun b u q n _ => by rw [upd_ne (hx b n)]; exact n, fun b u q _ => ?_,
    fun b xs q => by rw [upd_ne (hm b _ q fun z => z)]; exact q, fun b u xs q => by rw [upd_ne (hm b _ q fun z => z)]; exact q, fun b ps q => ⟨#[], by rw [upd_ne (hm b _ q fun z => z), q]; simp⟩⟩
  by_cases hbe : b = e
  · subst hbe; exact heo
  · exact ⟨u, k b u hbe q⟩
end

/-! ### the heap without what is tracked -/
def trk (h : Heap) (H : Hp) : List Addr := (List.range h.objs.size).filter fun a => (H a).isSome
def hidT (h : Heap) (H : Hp) : Heap := PySem.W.hideAll h (trk h H)
theorem hidT_size (h : Heap) (H : Hp) : (hidT h H).objs.size = h.objs.size := PySem.W.hideAll_size _ _
theorem hidT_get {h : Heap} {H : Hp} {b : Addr} {o : Obj} (e : h.get? b = some o) (n : H b = none) : (hidT h H).get? b = some o :=
  PySem.W.hideAll_get _ e fun hm => by
    have q : (H b).isSome = true := (List.mem_filter.mp hm).2
    rw [n] at q; simp at q
theorem of_hidT {h : Heap} {H : Hp} {b : Addr} {o : Obj} (e : (hidT h H).get? b = some o) : h.get? b = some o ∧ H b = none := by
  have e' : h.get? b = some o := PySem.W.of_hideAll (trk h H) e
  refine ⟨e', ?_⟩
  cases q : H b with
  | none => rfl
  | some x =>
    have hm : b ∈ trk h H := List.mem_filter.mpr ⟨List.mem_range.mpr (Heap.lt_size e'), by simp [q]⟩
    have z : (hidT h H).get? b = none := PySem.W.hideAll_none (trk h H) hm
    rw [z] at e; cases e

/-! ### OpenK's ledger, filled with every new object but one -/
end L2

namespace L2
open PySem PySem.Spec PyProof.Rows

/-- the module's facts, over the base: the heap at the law's entry without what is tracked there -/
structure Mod (K : PySem.W.Frag) (mg : Str → Option Value) (base : Heap) : Prop where
  kin : K.In base
  glob : base.Ns mainGlobals mg
  blt : ∃ mb, base.Ns builtinsNs mb ∧ ∀ x : Str, x ≠ "__name__" → mb x = bootBuiltins x
  nolimit : base.NoLimit

/-- the context: a def's body (or a comprehension's block) running. base: fixed through the whole law; s₀, H₀: the entry; outer: the frames whose slots others may change (a def's callers); stack: all frames that run;
   ex: iterators that were made ahead of the entry and are walked here (a comprehension's); fn: the names whose cells were made at the entry (a def: all; a comprehension's block: its own); calm: not within an except suite; pn: pins that every state bears; xe: what is wanted of an exception that leaves the code -/
structure Cx where
  prog : Program
  w : World
  K : PySem.W.Frag
  mg : Str → Option Value
  base : Heap
  A : Around
  N : List Str
  s₀ : Shared
  H₀ : Hp
  env : Env
  outer : List Env
  stack : List Env
  ex : List Addr
  fn : Str → Bool
  calm : Bool
  pn : List (Addr × Obj)
  xe : Value → Shared → Prop
/-- the callers' frames -/
def frs (l : List Env) : List Addr := l.filterMap (·.frame)
abbrev Cx.fs (X : Cx) : List Addr := frs X.outer

def Vis (sc : Scope) (x : Str) : Prop := sc.names.lookup x = some .local ∨ sc.names.lookup x = some .cell ∨ sc.names.lookup x = some .free
def Loc (sc : Scope) (x : Str) : Prop := sc.names.lookup x = some .local ∨ sc.names.lookup x = some .cell
def Look (env : Env) (h : Heap) (m : Str → Option Value) (x : Str) (u : Value) : Prop :=
  (env.kindOf x = some .local ∧ m x = some u) ∨ ((env.kindOf x = some .cell ∨ env.kindOf x = some .free) ∧ ∃ c, env.cells.lookup x = some c ∧ h.IsCell c (some u))

structure Cx.Ok (X : Cx) : Prop where
  mod : Mod X.K X.mg X.base
  kind : X.env.scope.kind = .function
  glob : X.env.globals = mainGlobals
  blt : X.env.builtins = builtinsNs
  above : X.s₀.heap.objs.size ≤ X.env.locals
  inj : ∀ x y c, X.env.cells.lookup x = some c → X.env.cells.lookup y = some c → x = y
  has : ∀ x, (X.env.kindOf x = some .cell ∨ X.env.kindOf x = some .free) → ∃ c, X.env.cells.lookup x = some c
  cab : ∀ x c, X.fn x = true → X.env.cells.lookup x = some c → X.s₀.heap.objs.size ≤ c
  hd : X.calm = true → X.A.handled = none
  frames : X.A.frames = some X.stack
  stk : X.stack = X.outer ∨ (X.stack = X.env :: X.outer ∧ X.env.frame = some X.env.locals)
  exf : ∀ b ∈ X.ex, b ≠ X.env.locals ∧ ∀ x c, X.env.cells.lookup x = some c → c ≠ b
  bs : ∀ b o, X.base.get? b = some o → X.s₀.heap.get? b = some o ∧ X.H₀ b = none
  bsz : X.base.objs.size ≤ X.s₀.heap.objs.size
  noex : ∀ b o, X.base.get? b = some o → b ∉ X.ex
  exfs : ∀ b ∈ X.ex, b ∉ X.fs
  funs : X.s₀.heap.FunFrames X.base X.outer
  frf : ∀ b ∈ X.fs, X.H₀ b = none

structure Inv (X : Cx) (pins : List (Addr × Obj)) (σ : List (Option V)) (H : Hp) (s : Shared) : Prop where
  ok : X.Ok
  os : s.os = X.s₀.os
  bare : AllBare s.gens
  base : Un X.fs X.ex X.H₀ H X.s₀.heap s.heap
  loc : ∃ m, s.heap.Ns X.env.locals m ∧ ∀ (i : Nat) (x : Str) (v : V), X.N[i]? = some x → σ[i]? = some (some v) → Vis X.env.scope x → ∃ u, RelV v u ∧ Look X.env s.heap m x u
  cell : ∀ x c, X.env.cells.lookup x = some c → ∃ v, s.heap.IsCell c v
  free : H X.env.locals = none
  freeC : ∀ x c, X.env.cells.lookup x = some c → H c = none
  pin : ∀ p ∈ X.pn ++ pins, s.heap.get? p.1 = some p.2 ∧ H p.1 = none ∧ p.1 ≠ X.env.locals ∧ p.1 ∉ X.fs ∧ ∀ v, p.2.data ≠ .cell v
  hok : HOk X.prog X.w H s.heap
  len : σ.length = X.N.length

section
variable {X : Cx} {pins : List (Addr × Obj)} {σ : List (Option V)} {H H' : Hp} {s : Shared} {h' : Heap}

theorem Cx.Ok.nofr (ok : X.Ok) {b : Addr} {o : Obj} (e : X.base.get? b = some o) : b ∉ X.fs := fun hb => by
  have := (ok.funs.mem hb).1
  rw [e] at this; cases this
theorem Inv.bs (I : Inv X pins σ H s) : ∀ b o, X.base.get? b = some o → s.heap.get? b = some o ∧ H b = none := fun b o e =>
  ⟨I.base.keep b o (I.ok.bs b o e).1 (I.ok.bs b o e).2 (I.ok.nofr e) (I.ok.noex b o e), I.base.free b o (I.ok.bs b o e).1 (I.ok.bs b o e).2 (I.ok.noex b o e)⟩
theorem Inv.bk (I : Inv X pins σ H s) : ∀ b o, X.base.get? b = some o → s.heap.get? b = some o := fun b o e => (I.bs b o e).1
theorem Inv.mod (I : Inv X pins σ H s) : Mod X.K X.mg X.base := I.ok.mod
theorem Inv.kIn (I : Inv X pins σ H s) : X.K.In s.heap := I.ok.mod.kin.keeps I.bk
theorem Inv.lt (I : Inv X pins σ H s) : X.env.locals < s.heap.objs.size := let ⟨_, hn, _⟩ := I.loc; hn.lt
theorem Inv.sz (I : Inv X pins σ H s) : X.s₀.heap.objs.size ≤ s.heap.objs.size := Nat.le_trans I.ok.above (Nat.le_of_lt I.lt)
theorem Inv.nofs (I : Inv X pins σ H s) {a : Addr} (h : s.heap.objs.size ≤ a) : a ∉ X.fs := fun hb => by
  obtain ⟨_, o, ho, _⟩ := I.ok.funs.mem hb
  exact absurd (Nat.lt_of_lt_of_le (Heap.lt_size ho) (Nat.le_trans I.sz h)) (Nat.lt_irrefl _)
theorem Inv.cne (I : Inv X pins σ H s) : ∀ x c, X.env.cells.lookup x = some c → c ≠ X.env.locals := fun x c e z => by
  obtain ⟨v, o, ho, hd⟩ := I.cell x c e
  obtain ⟨m, ⟨o', es, ep, ho', hd', _⟩, _⟩ := I.loc
  rw [z, ho'] at ho; cases ho; rw [hd'] at hd; cases hd
theorem Inv.funs (I : Inv X pins σ H s) : s.heap.FunFrames X.base X.outer := by
  have all : ∀ (l : List Env), (∀ b ∈ frs l, b ∈ X.fs) → X.s₀.heap.FunFrames X.base l → s.heap.FunFrames X.base l := by
    intro l
    induction l with
    | nil => intro _ _; trivial
    | cons env r ih =>
      intro hs hl
      obtain ⟨hk, ⟨L, o, hf, hn, ho, hd⟩, hr⟩ := hl
      have hL : L ∈ X.fs := hs L (by unfold frs; rw [List.filterMap_cons, hf]; exact List.mem_cons_self)
      obtain ⟨sl, e⟩ := I.base.slot L o ho (I.ok.frf L hL) hL fun z => I.ok.exfs L z hL
      exact ⟨hk, ⟨L, _, hf, hn, e, hd⟩, ih (fun b hb => hs b (by unfold frs; rw [List.filterMap_cons, hf]; exact List.mem_cons_of_mem _ hb)) hr⟩
  exact all X.outer (fun _ hb => hb) I.ok.funs

/-- the frames that run, for a call -/
theorem Inv.stack (I : Inv X pins σ H s) : s.heap.FunFrames X.base X.stack := by
  rcases I.ok.stk with e | ⟨e, hf⟩
  · rw [e]; exact I.funs
  · rw [e]
    obtain ⟨m, hn, _⟩ := I.loc
    refine .cons (by rw [I.ok.kind]; decide) hf hn ?_ I.funs
    exact Heap.get?_none_of_le (Nat.le_trans I.ok.bsz I.ok.above)
theorem Inv.stkSub (I : Inv X pins σ H s) : ∀ b ∈ frs X.stack, b ∈ X.env.locals :: X.fs := fun b hb => by
  rcases I.ok.stk with e | ⟨e, hf⟩
  · rw [e] at hb; exact List.mem_cons_of_mem _ hb
  · rw [e] at hb
    unfold frs at hb
    rw [List.filterMap_cons, hf] at hb
    exact hb
theorem Inv.stkFree (I : Inv X pins σ H s) : ∀ b ∈ frs X.stack, H b = none := fun b hb => by
  rcases List.mem_cons.mp (I.stkSub b hb) with e | hb
  · rw [e]; exact I.free
  · obtain ⟨_, o, ho, _⟩ := I.ok.funs.mem hb
    exact I.base.free b o ho (I.ok.frf b hb) fun z => I.ok.exfs b z hb

/-- THE STEP: the untracked objects but the frame and the records at ch are kept (the callers' frames up to slots), the frame's map is kept, the new abstract heap is held -/
theorem Inv.step {g' : Array GenState} {t' : Nat} {d' : Drawn} {ch : List Addr} (I : Inv X pins σ H s)
    (hch : ∀ b ∈ ch, (b ∈ X.ex ∨ X.s₀.heap.objs.size ≤ b) ∧ b ≠ X.env.locals ∧ (∀ x c, X.env.cells.lookup x = some c → c ≠ b) ∧ ∀ p ∈ X.pn ++ pins, p.1 ≠ b)
    (keep : ∀ b o, b ≠ X.env.locals → b ∉ X.fs → b ∉ ch → s.heap.get? b = some o → H b = none → h'.get? b = some o)
    (slot : ∀ b o, b ≠ X.env.locals → b ∈ X.fs → b ∉ ch → s.heap.get? b = some o → H b = none → ∃ sl, h'.get? b = some { o with slots := sl }) (free : ∀ b o, b ∉ ch → s.heap.get? b = some o → H b = none → H' b = none)
    (there : ∀ b o, b ∉ ch → s.heap.get? b = some o → ∃ o', h'.get? b = some o')
    (tups : ∀ b xs, H b = some (.tup xs) → H' b = some (.tup xs)) (frzs : ∀ b o u, H b = some (.frz o u) → H' b = some (.frz o u)) (tbls : ∀ b ps, H b = some (.tbl ps) → ∃ more, H' b = some (.tbl (ps ++ more)))
    (ns : ∀ m, s.heap.Ns X.env.locals m → h'.Ns X.env.locals m) (hok : HOk X.prog X.w H' h') (hg : AllBare g') :
    Inv X pins σ H' { s with heap := h', gens := g', drawn := d', toks := t' } := by
  have neL : ∀ b o, X.s₀.heap.get? b = some o → b ≠ X.env.locals := fun b o e => Nat.ne_of_lt (Nat.lt_of_lt_of_le (Heap.lt_size e) I.ok.above)
  have neC : ∀ b o, X.s₀.heap.get? b = some o → b ∉ X.ex → b ∉ ch := fun b o e hx hb => by
    rcases (hch b hb).1 with z | z
    · exact hx z
    · exact absurd (Nat.lt_of_lt_of_le (Heap.lt_size e) z) (Nat.lt_irrefl _)
  have cellK : ∀ x c, X.env.cells.lookup x = some c → ∀ v, s.heap.IsCell c v → h'.IsCell c v := fun x c e v ⟨o, ho, hd⟩ => by
    have nch : c ∉ ch := fun z => (hch c z).2.2.1 x c e rfl
    by_cases hc : c ∈ X.fs
    · obtain ⟨sl, q⟩ := slot c o (I.cne x c e) hc nch ho (I.freeC x c e)
      exact ⟨_, q, hd⟩
    · exact ⟨o, keep c o (I.cne x c e) hc nch ho (I.freeC x c e), hd⟩
  refine ⟨I.ok, I.os, hg, ⟨fun b o e n hb hx => ?_, fun b o e n hb hx => ?_, fun b o e n hx => ?_, fun b o e hx => ?_, fun b xs e => tups b xs (I.base.tups b xs e), fun b o xs e => frzs b o xs (I.base.frzs b o xs e), fun b ps e => ?_⟩, ?_, fun x c e => ?_, ?_, fun x c e => ?_, fun p hp => ?_, hok, I.len⟩
  · exact keep b o (neL b o e) hb (neC b o e hx) (I.base.keep b o e n hb hx) (I.base.free b o e n hx)
  · obtain ⟨sl, e1⟩ := I.base.slot b o e n hb hx
    obtain ⟨sl', e2⟩ := slot b _ (neL b o e) hb (neC b o e hx) e1 (I.base.free b o e n hx)
    exact ⟨sl', e2⟩
  · obtain ⟨o', e1⟩ := I.base.there b o e hx
    exact free b o' (neC b o e hx) e1 (I.base.free b o e n hx)
  · obtain ⟨o', e1⟩ := I.base.there b o e hx
    exact there b o' (neC b o e hx) e1
  · obtain ⟨m1, e1⟩ := I.base.tbls b ps e
    obtain ⟨m2, e2⟩ := tbls b _ e1
    exact ⟨m1 ++ m2, by rw [e2, Array.append_assoc]⟩
  · obtain ⟨m, hn, hl⟩ := I.loc
    refine ⟨m, ns m hn, fun i x v e1 e2 e3 => ?_⟩
    obtain ⟨u, r, l⟩ := hl i x v e1 e2 e3
    refine ⟨u, r, ?_⟩
    rcases l with l | ⟨k, c, e, z⟩
    · exact .inl l
    · exact .inr ⟨k, c, e, cellK x c e _ z⟩
  · obtain ⟨v, z⟩ := I.cell x c e
    exact ⟨v, cellK x c e v z⟩
  · obtain ⟨m, ⟨o, _, _, ho, _⟩, _⟩ := I.loc
    exact free _ o (fun z => (hch _ z).2.1 rfl) ho I.free
  · obtain ⟨v, o, ho, hd⟩ := I.cell x c e
    exact free c o (fun z => (hch c z).2.2.1 x c e rfl) ho (I.freeC x c e)
  · obtain ⟨e, n, ne, nf, d⟩ := I.pin p hp
    have nch : p.1 ∉ ch := fun z => (hch p.1 z).2.2.2 p hp rfl
    exact ⟨keep p.1 p.2 ne nf nch e n, free p.1 p.2 nch e n, ne, nf, d⟩
/-- .. where the frame's own object is kept too -/
theorem Inv.un {t' : Nat} (I : Inv X pins σ H s) (u : Un X.fs [] H H' s.heap h') (hok : HOk X.prog X.w H' h') : Inv X pins σ H' { s with heap := h', toks := t' } := by
  obtain ⟨m, ⟨o, es, ep, ho, r⟩, _⟩ := id I.loc
  obtain ⟨sl, hL⟩ := u.any ho I.free (by simp)
  exact I.step (g' := s.gens) (d' := s.drawn) (ch := []) (fun _ z => nomatch z) (fun b o _ hb _ e n => u.keep b o e n hb (by simp)) (fun b o _ hb _ e n => u.slot b o e n hb (by simp)) (fun b o _ e n => u.free b o e n (by simp)) (fun b o _ e => u.there b o e (by simp)) u.tups u.frzs u.tbls (fun m' hm => by
    obtain ⟨o', es', ep', ho', r'⟩ := hm
    rw [ho] at ho'; cases ho'
    exact ⟨_, es', ep', hL, r'⟩) hok I.bare
/-- behind a call (or a comprehension's block): the slots of this frame may have changed too, the records at ch may have turned -/
theorem Inv.call {g' : Array GenState} {t' : Nat} {d' : Drawn} {ch : List Addr} (I : Inv X pins σ H s) (u : Un (frs X.stack) ch H H' s.heap h') (hok : HOk X.prog X.w H' h') (hg : AllBare g')
    (hch : ∀ b ∈ ch, (b ∈ X.ex ∨ X.s₀.heap.objs.size ≤ b) ∧ b ≠ X.env.locals ∧ (∀ x c, X.env.cells.lookup x = some c → c ≠ b) ∧ ∀ p ∈ X.pn ++ pins, p.1 ≠ b) :
    Inv X pins σ H' { s with heap := h', gens := g', drawn := d', toks := t' } := by
  obtain ⟨m, ⟨o, es, ep, ho, r⟩, _⟩ := id I.loc
  obtain ⟨sl, hL⟩ := u.any ho I.free fun z => (hch _ z).2.1 rfl
  exact I.step (ch := ch) hch (fun b o hL hb hc e n => u.keep b o e n (fun z => (List.mem_cons.mp (I.stkSub b z)).elim hL hb) hc) (fun b o _ _ hc e n => u.any e n hc) (fun b o hc e n => u.free b o e n hc) (fun b o hc e => u.there b o e hc) u.tups u.frzs u.tbls (fun m' hm => by
    obtain ⟨o', es', ep', ho', r'⟩ := hm
    rw [ho] at ho'; cases ho'
    exact ⟨_, es', ep', hL, r'⟩) hok hg
/-- an untracked record of ours (an iterator) has turned -/
theorem Inv.turned {t' : Nat} {it : Addr} (I : Inv X pins σ H s) (k : ∀ b o, b ≠ it → s.heap.get? b = some o → h'.get? b = some o) (hn : H it = none) (hL : it ≠ X.env.locals)
    (h1 : it ∈ X.ex ∨ X.s₀.heap.objs.size ≤ it) (h2 : ∀ x c, X.env.cells.lookup x = some c → c ≠ it) (h3 : ∀ p ∈ X.pn ++ pins, p.1 ≠ it) : Inv X pins σ H { s with heap := h', toks := t' } := by
  have nit : ∀ b u, H b = some u → b ≠ it := fun b u e z => by rw [z, hn] at e; cases e
  refine I.step (g' := s.gens) (d' := s.drawn) (ch := [it]) (fun b hb => ?_) (fun b o _ _ hc e _ => k b o (fun z => hc (by simp [z])) e) (fun b o _ _ hc e _ => ⟨o.slots, k b o (fun z => hc (by simp [z])) e⟩) (fun _ _ _ _ n => n)
    (fun b o hc e => ⟨o, k b o (fun z => hc (by simp [z])) e⟩) (fun _ _ e => e) (fun _ _ _ e => e) (fun b ps e => ⟨#[], by rw [e]; simp⟩) (fun m hm => ?_) (fun b u e => ?_) I.bare
  · have e : b = it := by simpa using hb
    subst e
    exact ⟨h1, hL, h2, h3⟩
  · obtain ⟨o, es, ep, ho, r⟩ := hm
    exact ⟨o, es, ep, k _ o (Ne.symm hL) ho, r⟩
  · refine (I.hok b u e).stay (fun c v hc q => k c v ?_ q) (fun _ q => q) fun _ _ q => q
    rcases hc with z | z
    · rw [z]; exact nit b u e
    · exact nit c _ z
theorem Inv.tok (I : Inv X pins σ H s) (t : Nat) : Inv X pins σ H { s with toks := t } := I.un (h' := s.heap) (t' := t) Un.refl I.hok
/-- all objects kept -/
theorem Inv.kept {t' : Nat} (I : Inv X pins σ H s) (k : ∀ b u, s.heap.get? b = some u → h'.get? b = some u) : Inv X pins σ H { s with heap := h', toks := t' } := I.un (Un.kept k) (I.hok.kept k)
/-- a new object laid and tracked -/
theorem Inv.laid {a : Addr} {o : HO} {t' : Nat} (I : Inv X pins σ H s) (k : ∀ b u, s.heap.get? b = some u → h'.get? b = some u) (hp : s.heap.objs.size ≤ a) (new : ObjOk X.prog X.w (upd H a o) h' a o) :
    Inv X pins σ (upd H a o) { s with heap := h', toks := t' } := I.un (Un.laid k hp (I.hok.fresh hp)) (I.hok.laid k hp new)
/-- an object written -/
theorem Inv.write {x e : Addr} {o : HO} {t' : Nat} (I : Inv X pins σ H s) (mu : Mut (H x)) (he : e = x ∨ H e = some (.own x)) (k : ∀ b u, b ≠ e → s.heap.get? b = some u → h'.get? b = some u) (heo : ∃ u, h'.get? e = some u)
    (new : ObjOk X.prog X.w (upd H x o) h' x o) : Inv X pins σ (upd H x o) { s with heap := h', toks := t' } := I.un (Un.write mu he k heo) (I.hok.write mu he k heo new)
theorem Inv.pins_of {pins' : List (Addr × Obj)} (I : Inv X pins σ H s) (h : ∀ p ∈ pins', s.heap.get? p.1 = some p.2 ∧ H p.1 = none ∧ p.1 ≠ X.env.locals ∧ p.1 ∉ X.fs ∧ ∀ v, p.2.data ≠ .cell v) : Inv X pins' σ H s :=
  ⟨I.ok, I.os, I.bare, I.base, I.loc, I.cell, I.free, I.freeC, fun p hp => (List.mem_append.mp hp).elim (fun z => I.pin p (List.mem_append_left _ z)) (h p), I.hok, I.len⟩

theorem nodup_ix {N : List Str} (hN : N.Nodup) {i j : Nat} {x : Str} (a : N[i]? = some x) (b : N[j]? = some x) : i = j := by
  obtain ⟨h1, e1⟩ := List.getElem?_eq_some_iff.mp a
  obtain ⟨h2, e2⟩ := List.getElem?_eq_some_iff.mp b
  exact (List.getElem_inj hN).mp (e1.trans e2.symm)

/-- a name is stored; what changed -/
theorem store_ok2 {M : Model} {A : Around} {E : Value → Shared → Prop} {i : Nat} {x : Str} {v : V} {u : Value} {Q : Unit → Shared → Prop} (I : Inv X pins σ H s) (hN : X.N.Nodup) (hi : X.N[i]? = some x) (hx : Loc X.env.scope x) (r : RelV v u)
    (h : ∀ s', Inv X pins (σ.set i (some v)) H s' → (∃ a, Heap.SameBut a s.heap s'.heap ∧ (a = X.env.locals ∨ X.env.cells.lookup x = some a)) → Q () s') (hf : X.fn x = true ∨ X.env.scope.names.lookup x = some .local := by first | exact .inl rfl | exact .inr rfl | assumption) : wpAny M A (storeName X.env x u) Q E s := by
  obtain ⟨m, hn, hl⟩ := id I.loc
  have hcls : (X.env.scope.kind == .class || (X.env.scope.kind == .module && X.env.locals != X.env.globals)) = false := by rw [I.ok.kind]; rfl
  have hiσ : i < σ.length := by rw [I.len]; exact (List.getElem?_eq_some_iff.mp hi).1
  have cne := I.cne
  have tracked : ∀ {a : Addr} {h' : Heap}, (∃ o, s.heap.get? a = some o ∧ H a = none) → Heap.SameBut a s.heap h' → HOk X.prog X.w H h' := fun {a h'} ha hs b ob e => by
    obtain ⟨_, _, hfree⟩ := ha
    refine (I.hok b ob e).stay (fun c w' hc q => (hs.2 c ?_).trans q) (fun _ q => q) fun _ _ q => q
    rintro rfl
    rcases hc with rfl | hc
    · rw [hfree] at e; cases e
    · rw [hfree] at hc; cases hc
  rcases hx with hk | hk
  · refine wpAny_storeName_local hk hn (fun h' hn' hs => ?_) hcls
    obtain ⟨oL, _, _, hoL, _⟩ := id hn
    refine h _ ⟨I.ok, I.os, I.bare, ⟨fun b o e n hb hx => ?_, fun b o e n hb hx => ?_, I.base.free, fun b o e hx => ?_, I.base.tups, I.base.frzs, I.base.tbls⟩, ⟨_, hn', fun j y v' e1 e2 e3 => ?_⟩, fun y c e => ?_, I.free, I.freeC, fun p hp => ?_, tracked ⟨oL, hoL, I.free⟩ hs, by simpa using I.len⟩ ⟨_, hs, .inl rfl⟩
    · exact (hs.2 b (Nat.ne_of_lt (Nat.lt_of_lt_of_le (Heap.lt_size e) I.ok.above))).trans (I.base.keep b o e n hb hx)
    · obtain ⟨sl, e1⟩ := I.base.slot b o e n hb hx
      exact ⟨sl, (hs.2 b (Nat.ne_of_lt (Nat.lt_of_lt_of_le (Heap.lt_size e) I.ok.above))).trans e1⟩
    · obtain ⟨o', e1⟩ := I.base.there b o e hx
      exact ⟨o', (hs.2 b (Nat.ne_of_lt (Nat.lt_of_lt_of_le (Heap.lt_size e) I.ok.above))).trans e1⟩
    · by_cases hj : j = i
      · subst hj
        rw [hi] at e1; cases e1
        rw [List.getElem?_set_self hiσ] at e2
        cases e2
        exact ⟨u, r, .inl ⟨hk, by simp⟩⟩
      · rw [List.getElem?_set_ne (Ne.symm hj)] at e2
        obtain ⟨u', r', q⟩ := hl j y v' e1 e2 e3
        refine ⟨u', r', ?_⟩
        rcases q with ⟨k, e⟩ | ⟨k, c, e, z⟩
        · refine .inl ⟨k, ?_⟩
          have : y ≠ x := fun e => hj (nodup_ix hN e1 (e ▸ hi))
          simp [this, e]
        · exact .inr ⟨k, c, e, z.sameBut hs (cne y c e)⟩
    · obtain ⟨w', z⟩ := I.cell y c e
      exact ⟨w', z.sameBut hs (cne y c e)⟩
    · obtain ⟨e, n, ne, nf, d⟩ := I.pin p hp
      exact ⟨(hs.2 p.1 ne).trans e, n, ne, nf, d⟩
  · have hfn : X.fn x = true := by
      rcases hf with z | z
      · exact z
      · rw [z] at hk; cases hk
    obtain ⟨c, hc⟩ := I.ok.has x (.inl hk)
    obtain ⟨w', z⟩ := I.cell x c hc
    refine wpAny_storeName_cell I.ok.kind hk hc z (fun h' hc' hs => ?_)
    obtain ⟨oc, hoc, hocd⟩ := id z
    refine h { s with heap := h' } ⟨I.ok, I.os, I.bare, ⟨fun b o e n hb hx => ?_, fun b o e n hb hx => ?_, I.base.free, fun b o e hx => ?_, I.base.tups, I.base.frzs, I.base.tbls⟩, ⟨m, hn.sameBut hs (Ne.symm (cne x c hc)), fun j y v' e1 e2 e3 => ?_⟩, fun y c' e => ?_, I.free, I.freeC, fun p hp => ?_, tracked ⟨oc, hoc, I.freeC x c hc⟩ hs, by simpa using I.len⟩ ⟨c, hs, .inr hc⟩
    · exact (hs.2 b (Nat.ne_of_lt (Nat.lt_of_lt_of_le (Heap.lt_size e) (I.ok.cab x c hfn hc)))).trans (I.base.keep b o e n hb hx)
    · obtain ⟨sl, e1⟩ := I.base.slot b o e n hb hx
      exact ⟨sl, (hs.2 b (Nat.ne_of_lt (Nat.lt_of_lt_of_le (Heap.lt_size e) (I.ok.cab x c hfn hc)))).trans e1⟩
    · obtain ⟨o', e1⟩ := I.base.there b o e hx
      exact ⟨o', (hs.2 b (Nat.ne_of_lt (Nat.lt_of_lt_of_le (Heap.lt_size e) (I.ok.cab x c hfn hc)))).trans e1⟩
    · by_cases hj : j = i
      · subst hj
        rw [hi] at e1; cases e1
        rw [List.getElem?_set_self hiσ] at e2
        cases e2
        exact ⟨u, r, .inr ⟨.inl hk, c, hc, hc'⟩⟩
      · rw [List.getElem?_set_ne (Ne.symm hj)] at e2
        obtain ⟨u', r', q⟩ := hl j y v' e1 e2 e3
        refine ⟨u', r', ?_⟩
        rcases q with q | ⟨k, c', e, z'⟩
        · exact .inl q
        · refine .inr ⟨k, c', e, z'.sameBut hs ?_⟩
          rintro rfl
          exact hj (nodup_ix hN e1 (I.ok.inj _ _ _ e hc ▸ hi))
    · by_cases hcc : c' = c
      · subst hcc; exact ⟨_, hc'⟩
      · obtain ⟨w2, z2⟩ := I.cell y c' e
        exact ⟨w2, z2.sameBut hs hcc⟩
    · obtain ⟨e, n, ne, nf, d⟩ := I.pin p hp
      refine ⟨(hs.2 p.1 ?_).trans e, n, ne, nf, d⟩
      intro q
      rw [q, hoc] at e
      have q' : oc = p.2 := Option.some.inj e
      exact d w' (by rw [← q']; exact hocd)
theorem store_ok {M : Model} {A : Around} {E : Value → Shared → Prop} {i : Nat} {x : Str} {v : V} {u : Value} {Q : Unit → Shared → Prop} (I : Inv X pins σ H s) (hN : X.N.Nodup) (hi : X.N[i]? = some x) (hx : Loc X.env.scope x) (r : RelV v u)
    (h : ∀ s', Inv X pins (σ.set i (some v)) H s' → Q () s') (hf : X.fn x = true ∨ X.env.scope.names.lookup x = some .local := by first | exact .inl rfl | exact .inr rfl | assumption) : wpAny M A (storeName X.env x u) Q E s :=
  store_ok2 I hN hi hx r (fun s' I' _ => h s' I') hf
/-- behind a call or a block, the state as it is -/
theorem Inv.call' {s' : Shared} {ch : List Addr} (I : Inv X pins σ H s) (ho : s'.os = s.os) (u : Un (frs X.stack) ch H H' s.heap s'.heap) (hok : HOk X.prog X.w H' s'.heap) (hg : AllBare s'.gens)
    (hch : ∀ b ∈ ch, (b ∈ X.ex ∨ X.s₀.heap.objs.size ≤ b) ∧ b ≠ X.env.locals ∧ (∀ x c, X.env.cells.lookup x = some c → c ≠ b) ∧ ∀ p ∈ X.pn ++ pins, p.1 ≠ b) : Inv X pins σ H' s' := by
  obtain ⟨h', g', d', t', o'⟩ := s'
  have e : o' = s.os := ho
  subst e
  exact I.call (g' := g') (t' := t') (d' := d') u hok hg hch
end

/-! ### the judgements -/
/-- an exception: its class, its own dict's address (where it has one), the abstract heap behind it -/
abbrev XK := Value → Option Addr → Hp → Prop
abbrev St := List (Option V)
abbrev VK := V → Hp → Prop
/-- an expression's reading; a test's; an argument list's -/
abbrev TE := St → Hp → VK → Prop
abbrev TT := St → Hp → (Bool → Hp → Prop) → Prop
abbrev TA := St → Hp → (List V → Hp → Prop) → Prop
/-- what is wanted behind a statement -/
structure Ends where
  nx : St → Hp → Prop
  rt : VK
  bk : St → Hp → Prop := fun _ _ => False
  ct : St → Hp → Prop := fun _ _ => False
abbrev TS := Ends → St → Hp → Prop

def EP (X : Cx) (pins : List (Addr × Obj)) (σ : St) (Q : VK) (u : Value) (s' : Shared) : Prop := ∃ v H', Inv X pins σ H' s' ∧ RelV v u ∧ Q v H'
def TP (X : Cx) (pins : List (Addr × Obj)) (σ : St) (Q : Bool → Hp → Prop) (b : Bool) (s' : Shared) : Prop := ∃ H', Inv X pins σ H' s' ∧ Q b H'
def AP (X : Cx) (pins : List (Addr × Obj)) (σ : St) (Q : List V → Hp → Prop) (us : List Value) (s' : Shared) : Prop := ∃ vs H', Inv X pins σ H' s' ∧ Vals vs us ∧ Q vs H'
def SP (X : Cx) (pins : List (Addr × Obj)) (D : Ends) (f : Flow) (s' : Shared) : Prop :=
  match f with
  | .next => ∃ σ' H', Inv X pins σ' H' s' ∧ D.nx σ' H'
  | .brk => ∃ σ' H', Inv X pins σ' H' s' ∧ D.bk σ' H'
  | .cont => ∃ σ' H', Inv X pins σ' H' s' ∧ D.ct σ' H'
  | .ret u => ∃ v σ' H', Inv X pins σ' H' s' ∧ RelV v u ∧ D.rt v H'

def PE (X : Cx) (e : Expr) (t : TE) : Prop :=
  ∀ (pins : List (Addr × Obj)) (s : Shared) (σ : St) (H : Hp) (Q : VK), Inv X pins σ H s → t σ H Q → wpAny (model X.prog X.w) X.A (eval e X.env) (EP X pins σ Q) X.xe s
def PT (X : Cx) (e : Expr) (t : TT) : Prop :=
  ∀ (pins : List (Addr × Obj)) (s : Shared) (σ : St) (H : Hp) (Q : Bool → Hp → Prop), Inv X pins σ H s → t σ H Q → wpAny (model X.prog X.w) X.A (isTrue e X.env (eval e X.env)) (TP X pins σ Q) X.xe s
/-- a test whatever its 'whole' is (and, or) -/
def PW (X : Cx) (e : Expr) (t : TT) : Prop :=
  ∀ (whole : Sem Value) (pins : List (Addr × Obj)) (s : Shared) (σ : St) (H : Hp) (Q : Bool → Hp → Prop), Inv X pins σ H s → t σ H Q → wpAny (model X.prog X.w) X.A (isTrue e X.env whole) (TP X pins σ Q) X.xe s
theorem PW.pt {X : Cx} {e : Expr} {t : TT} (h : PW X e t) : PT X e t := h _
/-- an argument list (no star), from the left -/
def PA (X : Cx) (es : List Expr) (t : TA) : Prop :=
  ∀ (pos : Pos) (pins : List (Addr × Obj)) (s : Shared) (σ : St) (H : Hp) (Q : List V → Hp → Prop), Inv X pins σ H s → t σ H Q → wpAny (model X.prog X.w) X.A (spliced (backTo pos (starEach es X.env))) (AP X pins σ Q) X.xe s
def PS (X : Cx) (st : Stmt) (t : TS) : Prop :=
  ∀ (pins : List (Addr × Obj)) (s : Shared) (σ : St) (H : Hp) (D : Ends), Inv X pins σ H s → t D σ H → wpAny (model X.prog X.w) X.A (exec st X.env) (SP X pins D) X.xe s
def PSs (X : Cx) (st : List Stmt) (t : TS) : Prop :=
  ∀ (pins : List (Addr × Obj)) (s : Shared) (σ : St) (H : Hp) (D : Ends), Inv X pins σ H s → t D σ H → wpAny (model X.prog X.w) X.A (execs st X.env) (SP X pins D) X.xe s
/-- weaken the end -/
theorem thn {α : Type} {t : Sem α} {Q Q' : α → Shared → Prop} {M : Model} {A : Around} {E : Value → Shared → Prop} {s : Shared} (h : wpAny M A t Q E s) (hQ : ∀ a s, Q a s → Q' a s) : wpAny M A t Q' E s := wpAny_mono h hQ fun _ _ x => x
end L2

namespace L2
open PySem PySem.Spec PyProof.Rows
section
variable {X : Cx}


/-! ### names and constants -/
def tVar (i : Nat) : TE := fun σ H Q => ∃ v, σ[i]? = some (some v) ∧ Q v H
def tC (v : V) : TE := fun _ H Q => Q v H
theorem pe_var {i : Nat} {x : Str} {pos : Pos} (hN : X.N[i]? = some x) (hv : Vis X.env.scope x) (hd : (x == ("__debug__" : Str)) = false := by decide) (hcd : (x == ("__classdict__" : Str)) = false := by decide) : PE X (.Name x pos) (tVar i) := by
  intro pins s σ H Q I h
  obtain ⟨v, e, h⟩ := h
  obtain ⟨m, hn, hl⟩ := I.loc
  obtain ⟨u, r, l⟩ := hl i x v hN e hv
  have fin : EP X pins σ Q u s := ⟨v, H, I, r, h⟩
  rcases l with ⟨hk, hm⟩ | ⟨hk, c, hc, hcell⟩
  · exact wpAny_Name (wpAny_loadName_local I.ok.kind hk hn hm fin) hd
  · rcases hk with hk | hk
    · exact wpAny_Name (wpAny_loadName_cell I.ok.kind hk hc hcell fin) hd
    · exact wpAny_Name (wpAny_loadName_free I.ok.kind hk hc hcell fin hcd) hd
theorem pe_int {i j pos} : PE X (.Constant (.int i) j pos) (tC (.int i)) := fun _ _ _ H _ I h => wpAny_Constant_int ⟨.int i, H, I.tok _, ⟨_, rfl⟩, h⟩
theorem pe_bl {b j pos} : PE X (.Constant (.bool b) j pos) (tC (.bl b)) := fun _ _ _ H _ I h => Constant_bool ⟨.bl b, H, I, rfl, h⟩
theorem pe_non {j pos} : PE X (.Constant .none j pos) (tC .non) := fun _ _ _ H _ I h => Constant_none ⟨.non, H, I, rfl, h⟩
theorem pe_str {x j pos} : PE X (.Constant (.str x) j pos) (tC (.str x)) := fun _ _ _ H _ I h => Calls.Constant_str ⟨.str x, H, I.tok _, ⟨_, rfl⟩, h⟩

/-- a global name of the def -/
def Gl (X : Cx) (x : Str) : Prop := X.env.kindOf x = some .globalImplicit
theorem ld_glob {E : Value → Shared → Prop} {pins : List (Addr × Obj)} {s : Shared} {σ : St} {H : Hp} {x : Str} {u : Value} {pos : Pos} {Q : Value → Shared → Prop} (I : Inv X pins σ H s) (hg : Gl X x) (hm : X.mg x = some u) (h : Q u s)
    (hd : (x == ("__debug__" : Str)) = false := by decide) : wpAny (model X.prog X.w) X.A (eval (.Name x pos) X.env) Q E s :=
  Calls.Name_function_global I.ok.kind hg (Calls.loadGlobal_global (by rw [I.ok.glob]; exact I.mod.glob.keeps I.bk) hm h) hd
theorem ld_blt {E : Value → Shared → Prop} {pins : List (Addr × Obj)} {s : Shared} {σ : St} {H : Hp} {x : Str} {u : Value} {pos : Pos} {Q : Value → Shared → Prop} (I : Inv X pins σ H s) (hg : Gl X x) (hm : X.mg x = none) (hv : bootBuiltins x = some u) (h : Q u s)
    (hn : x ≠ "__name__" := by decide) (hd : (x == ("__debug__" : Str)) = false := by decide) : wpAny (model X.prog X.w) X.A (eval (.Name x pos) X.env) Q E s := by
  obtain ⟨mb, h1, h2⟩ := I.mod.blt
  exact Calls.Name_function_global I.ok.kind hg (Calls.loadGlobal_builtin (by rw [I.ok.glob]; exact I.mod.glob.keeps I.bk) hm (by rw [I.ok.blt]; exact h1.keeps I.bk) ((h2 x hn).trans hv) h) hd
theorem pe_bltn {x : Str} {v : V} {u : Value} {pos : Pos} (hg : Gl X x) (hm : X.mg x = none) (hv : bootBuiltins x = some u) (r : RelV v u) (hn : x ≠ "__name__" := by decide) (hd : (x == ("__debug__" : Str)) = false := by decide) : PE X (.Name x pos) (tC v) :=
  fun _ _ _ H _ I h => ld_blt I hg hm hv ⟨v, H, I, r, h⟩ hn hd

/-! ### arithmetic -/
variable {a b : Expr} {ta tb : TE} {pos : Pos}

/-! ### comparisons -/
def PC (X : Cx) (op : CmpOp) (a b : Expr) (t : TE) : Prop :=
  ∀ (pins : List (Addr × Obj)) (s : Shared) (σ : St) (H : Hp) (Q : VK), Inv X pins σ H s → t σ H Q →
    wpAny (model X.prog X.w) X.A (eval a X.env) (fun v s₁ => wpAny (model X.prog X.w) X.A (eval b X.env) (fun u s₂ => wpAny (model X.prog X.w) X.A (compareOp op v u) (EP X pins σ Q) X.xe s₂) X.xe s₁) X.xe s
/-- a comparison as a value, as a test -/
def tB (t : TE) : TT := fun σ H Q => t σ H fun x H1 => ∃ c, x = .bl c ∧ Q c H1
theorem pe_cmp {op : CmpOp} {t : TE} (h : PC X op a b t) (h1 : behindInMarks op b = false := by first | exact nobehind _ (by decide) (by decide) | rfl) : PE X (.Compare a [op] [b] pos) t := fun pins s σ H Q I hw => wpAny_Compare1 (h pins s σ H Q I hw) h1
theorem pt_cmp {op : CmpOp} {t : TE} (h : PC X op a b t) (h1 : behindInMarks op b = false := by first | exact nobehind _ (by decide) (by decide) | rfl) : PT X (.Compare a [op] [b] pos) (tB t) := by
  intro pins s σ H Q I hw
  refine wpAny_isTrue_Compare1 (thn (h pins s σ H _ I hw) fun v s1 h1 => thn h1 fun u s2 h2 => thn h2 fun c s3 ⟨x, H1, I1, r1, q1⟩ => ?_) h1
  obtain ⟨d, rfl, q⟩ := q1
  cases r1
  exact wpAny_truthy_bool ⟨H1, I1, q⟩
/-- an expression whose value is a bool, as a test -/
theorem pt_val {e : Expr} {t : TE} (h : PE X e t) (he : ∀ whole, isTrue e X.env whole = (do let v ← whole; standAt e.pos; holding [v] (truthy v)) := by intro _; rfl) : PT X e (tB t) := by
  intro pins s σ H Q I hw
  refine isTrue_plain (thn (h pins s σ H _ I hw) fun v s1 ⟨x, H1, I1, r1, q1⟩ => ?_) (he _)
  obtain ⟨d, rfl, q⟩ := q1
  cases r1
  exact wpAny_truthy_bool ⟨H1, I1, q⟩

/-! ### and, or, not -/
variable {tA tB' : TT} {rest : List Expr}
def tAnd (t u : TT) : TT := fun σ H Q => t σ H fun c H1 => if c = true then u σ H1 Q else Q false H1
def tOr (t u : TT) : TT := fun σ H Q => t σ H fun c H1 => if c = true then Q true H1 else u σ H1 Q
def tNot (t : TT) : TT := fun σ H Q => t σ H fun c H1 => Q (!c) H1
theorem pw_and1 (ha : PT X a tA) : PW X (.BoolOp .And [a] pos) tA := by
  intro wh pins s σ H Q I h
  refine isTrue_and (thn (ha pins s σ H Q I h) fun c s1 e => ?_)
  cases c with
  | true => exact isTrue_and_nil e
  | false => exact e
theorem pw_or1 (ha : PT X a tA) : PW X (.BoolOp .Or [a] pos) tA := by
  intro wh pins s σ H Q I h
  refine isTrue_or (thn (ha pins s σ H Q I h) fun c s1 e => ?_)
  cases c with
  | false => exact isTrue_or_nil e
  | true => exact e
theorem pw_and (ha : PT X a tA) (hb : PW X (.BoolOp .And (b :: rest) pos) tB') : PW X (.BoolOp .And (a :: b :: rest) pos) (tAnd tA tB') := by
  intro wh pins s σ H Q I h
  refine isTrue_and (thn (ha pins s σ H _ I h) fun c s1 ⟨H1, I1, q1⟩ => ?_)
  cases c with
  | true => exact hb wh pins s1 σ H1 Q I1 q1
  | false => exact ⟨H1, I1, q1⟩
theorem pw_or (ha : PT X a tA) (hb : PW X (.BoolOp .Or (b :: rest) pos) tB') : PW X (.BoolOp .Or (a :: b :: rest) pos) (tOr tA tB') := by
  intro wh pins s σ H Q I h
  refine isTrue_or (thn (ha pins s σ H _ I h) fun c s1 ⟨H1, I1, q1⟩ => ?_)
  cases c with
  | true => exact ⟨H1, I1, q1⟩
  | false => exact hb wh pins s1 σ H1 Q I1 q1
theorem pt_not (ha : PT X a tA) : PT X (.UnaryOp .Not a pos) (tNot tA) := by
  intro pins s σ H Q I h
  exact isTrue_not (ha pins s σ H (fun c H1 => Q (!c) H1) I h)
/-- .. as values (bools) -/
def tAndV (ta tb : TE) : TE := fun σ H Q => ta σ H fun x H1 => ∃ c, x = .bl c ∧ if c = true then tb σ H1 Q else Q (.bl false) H1
def tOrV (ta tb : TE) : TE := fun σ H Q => ta σ H fun x H1 => ∃ c, x = .bl c ∧ if c = true then Q (.bl true) H1 else tb σ H1 Q
def tNotV (ta : TE) : TE := fun σ H Q => ta σ H fun x H1 => ∃ c, x = .bl c ∧ Q (.bl (!c)) H1
theorem pe_one {op} {t : TE} (h : PE X a t) : PE X (.BoolOp op [a] pos) t := fun pins s σ H Q I hw => BoolOp_one (h pins s σ H Q I hw)
theorem pe_and (ha : PE X a ta) (hb : PE X (.BoolOp .And (b :: rest) pos) tb) : PE X (.BoolOp .And (a :: b :: rest) pos) (tAndV ta tb) := by
  intro pins s σ H Q I h
  refine BoolOp_and (thn (ha pins s σ H _ I h) fun v s1 ⟨x, H1, I1, r1, q1⟩ => ?_)
  obtain ⟨c, rfl, q1⟩ := q1
  cases r1
  refine wpAny_truthy_bool ?_
  cases c with
  | true => exact hb pins s1 σ H1 Q I1 q1
  | false => exact ⟨.bl false, H1, I1, rfl, q1⟩
theorem pe_or (ha : PE X a ta) (hb : PE X (.BoolOp .Or (b :: rest) pos) tb) : PE X (.BoolOp .Or (a :: b :: rest) pos) (tOrV ta tb) := by
  intro pins s σ H Q I h
  refine BoolOp_or (thn (ha pins s σ H _ I h) fun v s1 ⟨x, H1, I1, r1, q1⟩ => ?_)
  obtain ⟨c, rfl, q1⟩ := q1
  cases r1
  refine wpAny_truthy_bool ?_
  cases c with
  | false => exact hb pins s1 σ H1 Q I1 q1
  | true => exact ⟨.bl true, H1, I1, rfl, q1⟩
theorem pe_not (ha : PE X a ta) : PE X (.UnaryOp .Not a pos) (tNotV ta) := by
  intro pins s σ H Q I h
  refine UnaryOp_ (thn (ha pins s σ H _ I h) fun v s1 ⟨x, H1, I1, r1, q1⟩ => ?_)
  obtain ⟨c, rfl, q1⟩ := q1
  cases r1
  exact not_of (wpAny_truthy_bool ⟨.bl (!c), H1, I1, rfl, q1⟩)
end
end L2

namespace L2
open PySem PySem.Spec PyProof.Rows

/-! ### a list, a tuple that is read: tracked, frozen, or an object of the module -/
def SqL (K : PySem.W.Frag) (H : Hp) (a : Addr) (xs : List V) : Prop :=
  Rd H a (.lst xs) ∨
    ∃ (o : Obj) (its : Array Value) (n : Nat), K.lookup a = some o ∧ o.cls = .type "list" ∧ o.dict = none ∧ o.data = .seq its n ∧ its.size ≤ sizeLine ∧ Vals xs its.toList
def SqT (K : PySem.W.Frag) (H : Hp) (a : Addr) (xs : List V) : Prop :=
  Rd H a (.tup xs) ∨
    ∃ (o : Obj) (its : Array Value) (n : Nat), K.lookup a = some o ∧ o.cls = .type "tuple" ∧ o.data = .seq its n ∧ its.size ≤ sizeLine ∧ Vals xs its.toList
def absV : Value → Option V
  | .none => some .non
  | .bool b => some (.bl b)
  | .int i _ => some (.int i)
  | .str x _ => some (.str x)
  | .bytes b _ => some (.byt b)
  | .float b _ => some (.flt b)
  | .ref a => some (.ref a)
  | .type n => some (.ty n)
  | _ => none
theorem RelV.abs {x : V} {u : Value} (r : RelV x u) : absV u = some x := by
  cases x with
  | non => cases r; rfl
  | bl _ => cases r; rfl
  | int _ => obtain ⟨t, rfl⟩ := r; rfl
  | str _ => obtain ⟨t, rfl⟩ := r; rfl
  | byt _ => obtain ⟨t, rfl⟩ := r; rfl
  | flt _ => obtain ⟨t, rfl⟩ := r; rfl
  | ref _ => cases r; rfl
  | ty _ => cases r; rfl
theorem RelV.inj {x y : V} {u : Value} (r : RelV x u) (q : RelV y u) : x = y := Option.some.inj (r.abs.symm.trans q.abs)
theorem Vals.inj : ∀ {xs ys : List V} {us : List Value}, Vals xs us → Vals ys us → xs = ys
  | _, _, _, .nil, .nil => rfl
  | _, _, _, .cons r t, .cons r' t' => by rw [r.inj r', Vals.inj t t']
section
variable {X : Cx} {pins : List (Addr × Obj)} {σ : St} {H : Hp} {s : Shared} {a : Addr} {xs ys : List V}
theorem SqL.of {K : PySem.W.Frag} (h : H a = some (.lst xs)) : SqL K H a xs := .inl (.inl h)
theorem SqT.of {K : PySem.W.Frag} (h : H a = some (.tup xs)) : SqT K H a xs := .inl (.inl h)
theorem Inv.list (I : Inv X pins σ H s) (h : SqL X.K H a xs) : ∃ its : List Value, Vals xs its ∧ PlainL s.heap a its.toArray ∧ xs.length ≤ sizeLine := by
  rcases h with h | ⟨o, its, n, hk, hc, hd, hs, hz, r⟩
  · obtain ⟨z, its, n, r, e⟩ := h.ok I.hok
    exact ⟨its, r, ⟨_, n, e, rfl, rfl, rfl⟩, z⟩
  · refine ⟨its.toList, r, ⟨o, n, I.kIn a o hk, hc, hd, by simpa using hs⟩, ?_⟩
    have e := r.length
    simp only [Array.length_toList] at e
    omega
theorem Inv.tuple (I : Inv X pins σ H s) (h : SqT X.K H a xs) : ∃ its : List Value, Vals xs its ∧ IsTup s.heap a its.toArray ∧ xs.length ≤ sizeLine := by
  rcases h with h | ⟨o, its, n, hk, hc, hs, hz, r⟩
  · obtain ⟨z, its, r, p⟩ := h.ok I.hok
    exact ⟨its, r, p, z⟩
  · refine ⟨its.toList, r, ⟨o, I.kIn a o hk, hc, n, by simpa using hs⟩, ?_⟩
    have e := r.length
    simp only [Array.length_toList] at e
    omega
theorem Inv.list_inj (I : Inv X pins σ H s) (h : SqL X.K H a xs) (h' : SqL X.K H a ys) : xs = ys := by
  obtain ⟨its, r, ⟨o, n, e, _, _, d⟩, _⟩ := I.list h
  obtain ⟨its', r', ⟨o', n', e', _, _, d'⟩, _⟩ := I.list h'
  rw [e] at e'; cases e'
  rw [d] at d'
  injection d' with d1 _
  have : its = its' := by simpa using congrArg Array.toList d1
  subst this
  exact r.inj r'
end

/-! ### another wish about exceptions -/
abbrev Cx.wish (X : Cx) (E : Value → Shared → Prop) : Cx := { X with xe := E }
/-- no exception leaves -/
abbrev Cx.nox (X : Cx) : Cx := X.wish fun _ _ => False
theorem Cx.Ok.wish {X : Cx} (ok : X.Ok) (E : Value → Shared → Prop) : (X.wish E).Ok :=
  ⟨ok.mod, ok.kind, ok.glob, ok.blt, ok.above, ok.inj, ok.has, ok.cab, ok.hd, ok.frames, ok.stk, ok.exf, ok.bs, ok.bsz, ok.noex, ok.exfs, ok.funs, ok.frf⟩
theorem Cx.Ok.unwish {X : Cx} {E : Value → Shared → Prop} (ok : (X.wish E).Ok) : X.Ok :=
  ⟨ok.mod, ok.kind, ok.glob, ok.blt, ok.above, ok.inj, ok.has, ok.cab, ok.hd, ok.frames, ok.stk, ok.exf, ok.bs, ok.bsz, ok.noex, ok.exfs, ok.funs, ok.frf⟩
section
variable {X : Cx} {pins : List (Addr × Obj)} {σ : St} {H : Hp} {s : Shared} {E : Value → Shared → Prop}
theorem Inv.wish (I : Inv X pins σ H s) (E : Value → Shared → Prop) : Inv (X.wish E) pins σ H s := ⟨I.ok.wish E, I.os, I.bare, I.base, I.loc, I.cell, I.free, I.freeC, I.pin, I.hok, I.len⟩
theorem Inv.unwish (I : Inv (X.wish E) pins σ H s) : Inv X pins σ H s := ⟨I.ok.unwish, I.os, I.bare, I.base, I.loc, I.cell, I.free, I.freeC, I.pin, I.hok, I.len⟩
theorem SP.unwish {D : Ends} {f : Flow} {s' : Shared} (h : SP (X.wish E) pins D f s') : SP X pins D f s' := by
  cases f with
  | next => obtain ⟨σ', H', I, q⟩ := h; exact ⟨σ', H', I.unwish, q⟩
  | brk => obtain ⟨σ', H', I, q⟩ := h; exact ⟨σ', H', I.unwish, q⟩
  | cont => obtain ⟨σ', H', I, q⟩ := h; exact ⟨σ', H', I.unwish, q⟩
  | ret u => obtain ⟨v, σ', H', I, r, q⟩ := h; exact ⟨v, σ', H', I.unwish, r, q⟩
theorem PSs.nox {st : List Stmt} {t : TS} (h : PSs X.nox st t) : PSs X st t := fun pins s σ H D I hw =>
  wpAny_mono (h pins s σ H D (I.wish _) hw) (fun _ _ q => q.unwish) fun _ _ z => False.elim z
end

/-! ### blocks and small statements -/
section
variable {X : Cx} {st : Stmt} {rest : List Stmt} {t u : TS} {e : Expr} {te : TE} {pos : Pos}
def tNext : TS := fun D σ H => D.nx σ H
def tSeq (t u : TS) : TS := fun D σ H => t { D with nx := u D } σ H
theorem pss_nil : PSs X [] tNext := fun _ _ σ H _ I h => wpAny_execs_nil ⟨σ, H, I, h⟩
theorem pss_cons (h1 : PS X st t) (h2 : PSs X rest u) : PSs X (st :: rest) (tSeq t u) := by
  intro pins s σ H D I h
  refine wpAny_execs_cons (thn (h1 pins s σ H { D with nx := u D } I h) fun f s1 q => ?_)
  cases f with
  | next =>
    obtain ⟨σ', H', I', q⟩ := q
    exact h2 pins s1 σ' H' D I' q
  | ret v => exact q
  | brk => exact q
  | cont => exact q
theorem pss_one (h1 : PS X st t) : PSs X [st] t := by
  intro pins s σ H D I h
  refine wpAny_execs_cons (thn (h1 pins s σ H D I h) fun f s1 q => ?_)
  cases f with
  | next => exact wpAny_execs_nil q
  | ret v => exact q
  | brk => exact q
  | cont => exact q
/-- in a def's body nothing is shown -/
theorem Inv.quiet {pins : List (Addr × Obj)} {σ : St} {H : Hp} {s : Shared} (I : Inv X pins σ H s) : interactive X.env = false := by simp [interactive, I.ok.kind]
/-- an expression whose value is dropped -/
def tDrop (te : TE) : TS := fun D σ H => te σ H fun _ H1 => D.nx σ H1
theorem ps_expr (he : PE X e te) (hs : swapsWith e none pos.line X.env = pure false := by rfl) : PS X (.Expr e pos) (tDrop te) := by
  intro pins s σ H D I h
  exact wpAny_Expr_any (thn (he pins s σ H _ I h) fun v s1 ⟨x, H1, I1, r1, q1⟩ => ⟨σ, H1, I1, q1⟩) I.quiet hs
def tRet (te : TE) : TS := fun D σ H => te σ H D.rt
theorem ps_ret (he : PE X e te) : PS X (.Return (some e) pos) (tRet te) := by
  intro pins s σ H D I h
  exact wpAny_Return_some (thn (he pins s σ H _ I h) fun v s1 ⟨x, H1, I1, r1, q1⟩ => ⟨x, σ, H1, I1, r1, q1⟩)
def tIfS (c : TT) (t u : TS) : TS := fun D σ H => c σ H fun b H1 => if b = true then t D σ H1 else u D σ H1
theorem ps_if {c : Expr} {a b : List Stmt} {tc : TT} (hc : PT X c tc) (ha : PSs X a t) (hb : PSs X b u) : PS X (.If c a b pos) (tIfS tc t u) := by
  intro pins s σ H D I h
  refine wpAny_If (thn (hc pins s σ H _ I h) fun d s1 ⟨H1, I1, q1⟩ => ?_)
  cases d with
  | true => exact ha pins s1 σ H1 D I1 q1
  | false => exact hb pins s1 σ H1 D I1 q1
/-- code that the proof never comes to -/
def tNever : TS := fun _ _ _ => False
theorem pss_never {sts : List Stmt} : PSs X sts tNever := fun _ _ _ _ _ _ h => h.elim
end

/-! ### targets -/
abbrev TG := V → St → Hp → (St → Hp → Prop) → Prop
abbrev TGs := List V → St → Hp → (St → Hp → Prop) → Prop
def PG (X : Cx) (target : Expr) (t : TG) : Prop :=
  ∀ (pins : List (Addr × Obj)) (s : Shared) (σ : St) (H : Hp) (v : V) (u : Value) (Q : St → Hp → Prop), Inv X pins σ H s → RelV v u → t v σ H Q →
    wpAny (model X.prog X.w) X.A (assign target X.env u) (fun _ s' => ∃ σ' H', Inv X pins σ' H' s' ∧ Q σ' H') X.xe s
/-- several targets, one after another -/
def PGs (X : Cx) (ts : List Expr) (t : TGs) : Prop :=
  ∀ (pins : List (Addr × Obj)) (s : Shared) (σ : St) (H : Hp) (vs : List V) (us : List Value) (Q : St → Hp → Prop), Inv X pins σ H s → Vals vs us → t vs σ H Q →
    wpAny (model X.prog X.w) X.A (assignInOrder ((assignEach ts X.env).map (·.2)) us) (fun _ s' => ∃ σ' H', Inv X pins σ' H' s' ∧ Q σ' H') X.xe s
section
variable {X : Cx} {pos : Pos}
def gName (i : Nat) : TG := fun v σ H Q => Q (σ.set i (some v)) H
theorem pg_name {i : Nat} {x : Str} (hN : X.N.Nodup) (hi : X.N[i]? = some x) (hx : Loc X.env.scope x) (hf : X.fn x = true ∨ X.env.scope.names.lookup x = some .local := by first | exact .inl rfl | exact .inr rfl | assumption) : PG X (.Name x pos) (gName i) := by
  intro pins s σ H v u Q I r h
  exact wpAny_assign_Name (store_ok I hN hi hx r (fun s' I' => ⟨_, H, I', h⟩) hf)
def gNil : TGs := fun vs σ H Q => vs = [] ∧ Q σ H
def gCons (t : TG) (u : TGs) : TGs := fun vs σ H Q => ∃ v r, vs = v :: r ∧ t v σ H fun σ' H' => u r σ' H' Q
theorem pgs_nil : PGs X [] gNil := by
  intro pins s σ H vs us Q I r h
  obtain ⟨e, h⟩ := h
  subst e
  cases r
  exact assignInOrder_nil ⟨σ, H, I, h⟩
theorem pgs_cons {e : Expr} {es : List Expr} {t : TG} {u : TGs} (h1 : PG X e t) (h2 : PGs X es u)
    (hs : (assignEach (e :: es) X.env).map (·.2) = assign e X.env :: (assignEach es X.env).map (·.2) := by rfl) : PGs X (e :: es) (gCons t u) := by
  intro pins s σ H vs us Q I r h
  obtain ⟨v, vr, e1, h⟩ := h
  subst e1
  cases r with
  | cons r rr =>
    rw [hs]
    refine assignInOrder_cons (thn (h1 pins s σ H _ _ _ I r h) fun _ s1 ⟨σ1, H1, I1, q1⟩ => ?_)
    exact h2 pins s1 σ1 H1 _ _ Q I1 rr q1
/-- (a, b, ..) = a tuple of that length -/
def gTup (K : PySem.W.Frag) (n : Nat) (t : TGs) : TG := fun v σ H Q => ∃ a xs, v = .ref a ∧ SqT K H a xs ∧ xs.length = n ∧ t xs σ H Q
theorem pg_tup {es : List Expr} {k : Nat} {t : TGs} {n : Nat} (hc : X.calm = true) (h : PGs X es t)
    (hn : (assignEach es X.env).length = n := by rfl) (hst : (assignEach es X.env).findIdx? (·.1) = none := by rfl) : PG X (.Tuple es k pos) (gTup X.K n t) := by
  intro pins s σ H v u Q I r hw
  obtain ⟨a, xs, e1, hq, hl, hw⟩ := hw
  subst e1
  cases r
  obtain ⟨its, rv, ht, hz⟩ := I.tuple hq
  refine assign_Tuple_tuple (I.ok.hd hc) ht (by simp [hn, ← hl, rv.length]) hst fun h' hx => ?_
  have I1 : Inv X pins σ H { s with heap := h' } := I.kept (t' := s.toks) fun b o e => hx b o (Nat.ne_of_lt (Heap.lt_size e)) e
  exact h pins _ σ H xs _ Q I1 (by simpa using rv) hw
/-- target = value -/
def tAsg (te : TE) (g : TG) : TS := fun D σ H => te σ H fun x H1 => g x σ H1 D.nx
/-- name = value -/
theorem ps_set {i : Nat} {x : Str} {e : Expr} {te : TE} {pos' : Pos} (hN : X.N.Nodup) (hi : X.N[i]? = some x) (hx : Loc X.env.scope x) (he : PE X e te) (hs : swapsWith e (some (.Name x pos')) pos.line X.env = pure false := by rfl) (hf : X.fn x = true ∨ X.env.scope.names.lookup x = some .local := by first | exact .inl rfl | exact .inr rfl | assumption) :
    PS X (.Assign [.Name x pos'] e pos) (tAsg te (gName i)) := by
  intro pins s σ H D I h
  refine wpAny_Assign_Name (thn (he pins s σ H _ I h) fun v s1 ⟨y, H1, I1, r1, q1⟩ => ?_) hs
  exact store_ok I1 hN hi hx r1 (fun s2 I2 => ⟨_, H1, I2, q1⟩) hf
end

/-! ### while -/
section
variable {X : Cx} {pos : Pos}
/-- the invariant W with its measure -/
def tWhile (c : TT) (tb : TS) : TS := fun D σ H => ∃ W : Nat → St → Hp → Prop, (∃ m, W m σ H) ∧ ∀ m σ H, W m σ H →
  c σ H fun b H1 => if b = true then ∃ N : St → Hp → Prop, (∀ σ' H', N σ' H' → ∃ m', m' < m ∧ W m' σ' H') ∧ tb { D with nx := N, ct := N, bk := D.nx } σ H1 else D.nx σ H1
theorem ps_while {c : Expr} {body : List Stmt} {tc : TT} {tb : TS} (hp : PassesOwn (model X.prog X.w) X.A X.env X.xe) (hc : PT X c tc) (hb : PSs X body tb) : PS X (.While c body [] pos) (tWhile tc tb) := by
  intro pins s σ H D I h
  obtain ⟨W, ⟨m0, w0⟩, turn⟩ := h
  refine wpAny_While (codeAny_whileLoop (fun n s' => ∃ σ' H', Inv X pins σ' H' s' ∧ W n σ' H') ?_ m0 ⟨σ, H, I, w0⟩)
  rintro n s1 ⟨σ1, H1, I1, w1⟩
  refine wpAny_passesOwn hp (thn (hc pins s1 σ1 H1 _ I1 (turn n σ1 H1 w1)) fun b s2 ⟨H2, I2, q2⟩ => ?_)
  cases b with
  | true =>
    obtain ⟨N, hN, q2⟩ := q2
    rw [if_pos rfl]
    refine wpAny_passesOwn hp (thn (hb pins s2 σ1 H2 _ I2 q2) fun f s3 q3 => ?_)
    cases f with
    | next =>
      obtain ⟨σ3, H3, I3, n3⟩ := q3
      obtain ⟨m', hm, w3⟩ := hN σ3 H3 n3
      exact ⟨m', hm, σ3, H3, I3, w3⟩
    | cont =>
      obtain ⟨σ3, H3, I3, n3⟩ := q3
      obtain ⟨m', hm, w3⟩ := hN σ3 H3 n3
      exact ⟨m', hm, σ3, H3, I3, w3⟩
    | brk => exact q3
    | ret v => exact q3
  | false =>
    rw [if_neg Bool.false_ne_true]
    exact wpAny_execs_nil ⟨σ1, H2, I2, q2⟩
end

/-! ### what a loop or a comprehension walks -/
/-- at turn i: it yields x (the heap may grow), or it stops -/
structure It where
  go : Nat → Hp → Prop
  yld : Nat → Hp → V → Hp → Prop
  stop : Nat → Hp → Prop
/-- the iterator's own objects may turn: they are not the frame's, not pinned, younger than the entry (or a comprehension's own) -/
def FpOk (X : Cx) (pins : List (Addr × Obj)) (H : Hp) (b : Addr) : Prop :=
  H b = none ∧ b ≠ X.env.locals ∧ b ∉ X.fs ∧ (b ∈ X.ex ∨ X.s₀.heap.objs.size ≤ b) ∧ (∀ x c, X.env.cells.lookup x = some c → c ≠ b) ∧ ∀ p ∈ X.pn ++ pins, p.1 ≠ b
theorem Inv.fpOk {X : Cx} {pins : List (Addr × Obj)} {σ : St} {H H' : Hp} {s : Shared} {b : Addr} (I : Inv X pins σ H s) (hb : s.heap.objs.size ≤ b) (hn : H' b = none) : FpOk X pins H' b := by
  refine ⟨hn, Nat.ne_of_gt (Nat.lt_of_lt_of_le I.lt hb), I.nofs hb, .inr (Nat.le_trans I.sz hb), fun x c e z => ?_, fun p hp z => ?_⟩
  · obtain ⟨v, q⟩ := I.cell x c e
    exact absurd (Nat.lt_of_lt_of_le q.lt (by rw [z]; exact hb)) (Nat.lt_irrefl _)
  · exact absurd (Nat.lt_of_lt_of_le (Heap.lt_size (I.pin p hp).1) (by rw [z]; exact hb)) (Nat.lt_irrefl _)
structure Turn (P : Program) (w : World) (K : PySem.W.Frag) (tg : Expr) (J : It) (fp : List Addr) (it : Addr) (tn : Nat → Heap → Prop) : Prop where
  mem : it ∈ fp
  obj : ∀ i h, tn i h → ∀ b ∈ fp, ∃ o, h.get? b = some o ∧ ∀ v, o.data ≠ .cell v
  keep : ∀ i h h', tn i h → (∀ b ∈ fp, ∀ o, h.get? b = some o → h'.get? b = some o) → tn i h'
  item : ∀ (X : Cx), X.prog = P → X.w = w → X.K = K → X.calm = true → ∀ (i : Nat) (pins : List (Addr × Obj)) (s : Shared) (σ : St) (H : Hp) (E : Value → Shared → Prop), Inv X pins σ H s → (∀ b ∈ fp, FpOk X pins H b) → tn i s.heap → J.go i H →
    wpAny (model P w) X.A (pyNext (.ref it)) (fun r s1 => ∃ u, r = some u ∧
      wpAny (model P w) X.A (letOwnedTupleGo tg (.ref it) u) (fun _ s2 => ∃ x H', Inv X pins σ H' s2 ∧ RelV x u ∧ J.yld i H x H' ∧ tn (i + 1) s2.heap ∧ ∀ b ∈ fp, H' b = none) E s1) E s
  done : ∀ (X : Cx), X.prog = P → X.w = w → X.K = K → X.calm = true → ∀ (i : Nat) (pins : List (Addr × Obj)) (s : Shared) (σ : St) (H : Hp) (E : Value → Shared → Prop), Inv X pins σ H s → (∀ b ∈ fp, FpOk X pins H b) → tn i s.heap → J.stop i H →
    wpAny (model P w) X.A (pyNext (.ref it)) (fun r s1 => r = none ∧ Inv X pins σ H s1) E s
  self : ∀ (A : Around) (i : Nat) (s : Shared) (Q : Value → Shared → Prop) (E : Value → Shared → Prop), tn i s.heap → Q (.ref it) s → wpAny (model P w) A (pyIter (.ref it)) Q E s
abbrev TI := St → Hp → (It → Hp → Prop) → Prop
/-- an iterator has come -/
def PIE (X : Cx) (pins : List (Addr × Obj)) (σ : St) (tg : Expr) (R : It → Hp → Prop) (itv : Value) (s2 : Shared) : Prop :=
  ∃ (it : Addr) (fp : List Addr) (tn : Nat → Heap → Prop) (J : It) (H' : Hp), itv = .ref it ∧ Inv X pins σ H' s2 ∧ Turn X.prog X.w X.K tg J fp it tn ∧ tn 0 s2.heap ∧ (∀ b ∈ fp, FpOk X pins H' b) ∧ R J H'
def PI (X : Cx) (tg iter : Expr) (wi : TI) : Prop :=
  ∀ (pins : List (Addr × Obj)) (s : Shared) (σ : St) (H : Hp) (R : It → Hp → Prop), Inv X pins σ H s → wi σ H R →
    wpAny (model X.prog X.w) X.A (eval iter X.env) (fun v s1 => wpAny (model X.prog X.w) X.A (pyIter v) (PIE X pins σ tg R) X.xe s1) X.xe s

/-- the step ahead of the store is nothing for an iterator that keeps no tuple -/
theorem go_of {M : Model} {A : Around} {E : Value → Shared → Prop} {s : Shared} {tg : Expr} {it : Addr} {u : Value} {o : Obj} {n : String} {vs : Array Value} {Q : Unit → Shared → Prop} (ho : s.heap.get? it = some o) (hc : o.cls = .type n) (hd : o.data = .fields vs)
    (hn : ["enumerate", "zip", "dict_itemiterator", "dict_reverseitemiterator", "odict_iterator", "itertools.zip_longest", "itertools.pairwise"].contains n = false) (hQ : Q () s) : wpAny M A (letOwnedTupleGo tg (.ref it) u) Q E s := by
  unfold letOwnedTupleGo
  cases tg <;> first
    | exact wpAny_pure hQ
    | (cases u <;> first
        | exact wpAny_pure hQ
        | (refine wpAny_bind (wpAny_load ho ?_)
           rw [hc, hd]
           show wpAny M A (if (["enumerate", "zip", "dict_itemiterator", "dict_reverseitemiterator", "odict_iterator", "itertools.zip_longest", "itertools.pairwise"].contains n && vs[0]? == some (rawInt _)) = true then _ else _) Q E s
           rw [if_neg (by intro h; rw [hn, Bool.false_and] at h; cases h)]
           exact wpAny_pure hQ))

/-- the list at a, as it stands at each turn (a loop may append to it) -/
def Itl (K : PySem.W.Frag) (a : Addr) : It :=
  ⟨fun i H => ∃ xs x, SqL K H a xs ∧ xs[i]? = some x, fun i H x H' => H' = H ∧ ∀ xs, SqL K H a xs → xs[i]? = some x, fun i H => ∃ xs, SqL K H a xs ∧ xs.length ≤ i⟩
/-- lo, lo + 1, .. (n of them) -/
def Itr (lo : Int) (n : Nat) : It := ⟨fun i _ => i < n, fun i H x H' => H' = H ∧ x = .int (lo + i), fun i _ => n ≤ i⟩
theorem turn_list {P : Program} {w : World} {K : PySem.W.Frag} {tg : Expr} (a it : Addr) : Turn P w K tg (Itl K a) [it] it (fun i h => h.IsListIter it a i) where
  mem := by simp
  obj := fun i h st b hb => by
    have e : b = it := by simpa using hb
    subst e
    obtain ⟨o, e, c, d⟩ := st
    exact ⟨o, e, fun v z => by rw [d] at z; cases z⟩
  keep := fun i h h' st k => st.at fun o e => k it (by simp) o e
  item := by
    intro X hP hw hK hc i pins s σ H E I hf st hg
    subst hP hw hK
    obtain ⟨xs, x, hq, hx⟩ := hg
    obtain ⟨its, rv, p, hz⟩ := I.list hq
    obtain ⟨u, hu, ru⟩ := rv.get hx
    obtain ⟨f0, f1, f2, f3, f4, f5⟩ := hf it (by simp)
    refine wpAny_pyNext_list_item st p.isList (x := u) (by simpa using hu) fun h' st' sb => ?_
    have I1 : Inv X pins σ H { s with heap := h' } := I.turned (t' := s.toks) (fun b o hb e => (sb.2 b hb).trans e) f0 f1 f3 f4 f5
    obtain ⟨o, e, c, d⟩ := id st'
    exact ⟨u, rfl, go_of (s := { s with heap := h' }) e c d (by decide) ⟨x, H, I1, ru, ⟨rfl, fun ys hy => by rw [I.list_inj hy hq]; exact hx⟩, st', fun b hb => (hf b hb).1⟩⟩
  done := by
    intro X hP hw hK hc i pins s σ H E I hf st hg
    subst hP hw hK
    obtain ⟨xs, hq, hx⟩ := hg
    obtain ⟨its, rv, p, hz⟩ := I.list hq
    obtain ⟨f0, f1, f2, f3, f4, f5⟩ := hf it (by simp)
    have hl := rv.length
    exact wpAny_pyNext_list_end (I.ok.hd hc) st p.isList (by simp; omega) fun h' eb => ⟨rfl, I.turned (t' := s.toks) (fun b o hb e => eb b o hb e) f0 f1 f3 f4 f5⟩
  self := fun _ _ _ _ _ st h => wpAny_pyIter_listiter st h
theorem turn_range {P : Program} {w : World} {K : PySem.W.Frag} {tg : Expr} (it : Addr) (lo : Int) (n : Nat) : Turn P w K tg (Itr lo n) [it] it (fun i h => IsRangeIter h it (lo + (i : Nat) * 1) ((n : Int) - (i : Nat)) 1) where
  mem := by simp
  obj := fun i h st b hb => by
    have e : b = it := by simpa using hb
    subst e
    exact ⟨_, st, fun v z => by
      have z' : Data.fields _ = Data.cell v := z
      cases z'⟩
  keep := fun i h h' st k => k it (by simp) _ st
  item := by
    intro X hP hw hK hc i pins s σ H E I hf st hg
    subst hP hw hK
    obtain ⟨f0, f1, f2, f3, f4, f5⟩ := hf it (by simp)
    have W := Walks.range (prog := X.prog) (w := X.w) (I.ok.hd hc) it lo 1 n
    refine W.item i s _ _ hg st fun v h' tk hv st' kk => ?_
    obtain ⟨t, rfl⟩ := hv
    have I1 : Inv X pins σ H { s with heap := h', toks := tk } := I.turned (fun b o hb e => kk b o (by simpa using hb) e) f0 f1 f3 f4 f5
    refine ⟨_, rfl, go_of (s := { s with heap := h', toks := tk }) (n := "range_iterator") st' rfl rfl (by decide) ⟨.int (lo + i), H, I1, ⟨t, ?_⟩, ⟨rfl, rfl⟩, st', fun b hb => (hf b hb).1⟩⟩
    rw [Int.mul_one]
  done := by
    intro X hP hw hK hc i pins s σ H E I hf st hg
    subst hP hw hK
    obtain ⟨f0, f1, f2, f3, f4, f5⟩ := hf it (by simp)
    exact wpAny_pyNext_range_end (I.ok.hd hc) st (by have : n ≤ i := hg; omega) fun h' eb => ⟨rfl, I.turned (t' := s.toks) (fun b o hb e => eb b o hb e) f0 f1 f3 f4 f5⟩
  self := fun _ _ _ _ _ st h => wpAny_pyIter_rangeiter st h
end L2

namespace L2
open PySem PySem.Spec PyProof.Rows
section
variable {X : Cx} {tg : Expr}
def iList (K : PySem.W.Frag) (tl : TE) : TI := fun σ H R => tl σ H fun x H1 => ∃ a, x = .ref a ∧ (∃ xs, SqL K H1 a xs) ∧ R (Itl K a) H1
theorem pi_list {l : Expr} {tl : TE} (hl : PE X l tl) : PI X tg l (iList X.K tl) := by
  intro pins s σ H R I h
  refine thn (hl pins s σ H _ I h) fun v s1 ⟨x, H1, I1, r1, q1⟩ => ?_
  obtain ⟨a, e, ⟨xs, hq⟩, q⟩ := q1
  subst e
  cases r1
  obtain ⟨its, rv, p, hz⟩ := I1.list hq
  refine wpAny_pyIter_list p.isList ?_
  refine ⟨s1.heap.objs.size, [s1.heap.objs.size], _, _, H1, rfl, I1.kept (t' := s1.toks) fun b o e => Heap.get?_push_of_some _ e, turn_list a _, ⟨_, Heap.get?_push_size _ rfl, rfl, rfl⟩, fun b hb => ?_, q⟩
  have e : b = s1.heap.objs.size := by simpa using hb
  subst e
  exact I1.fpOk (Nat.le_refl _) (I1.hok.fresh (Nat.le_refl _))
/-- a range object just made, walked -/
theorem range_it {pins : List (Addr × Obj)} {σ : St} {H : Hp} {s : Shared} {R : It → Hp → Prop} {E : Value → Shared → Prop} {lo hi : Int} {t u v : Tok} {tk : Nat} (I : Inv X pins σ H s) (h1 : -(2 ^ 62) ≤ lo) (h2 : lo < 2 ^ 62) (h3 : -(2 ^ 62) ≤ hi) (h4 : hi < 2 ^ 62)
    (q : R (Itr lo (hi - lo).toNat) H) : wpAny (model X.prog X.w) X.A (pyIter (.ref s.heap.objs.size)) (PIE X pins σ tg R) E { s with heap := s.heap.push { cls := .type "range", data := .fields #[.int lo t, .int hi u, .int 1 v] }, toks := tk } := by
  refine wpAny_pyIter_range (IsRange.new ..) (small_one h1 h2 h3 h4) ?_
  have I1 : Inv X pins σ H { s with heap := s.heap.push { cls := .type "range", data := .fields #[.int lo t, .int hi u, .int 1 v] }, toks := tk } := I.kept fun b o e => Heap.get?_push_of_some _ e
  refine ⟨(s.heap.push { cls := .type "range", data := .fields #[.int lo t, .int hi u, .int 1 v] }).objs.size, [(s.heap.push { cls := .type "range", data := .fields #[.int lo t, .int hi u, .int 1 v] }).objs.size], _, _, H, rfl,
    I1.kept (t' := tk) fun b o e => Heap.get?_push_of_some _ e, turn_range _ lo (hi - lo).toNat, ?_, fun b hb => ?_, q⟩
  · have e1 : lo + ((0 : Nat) : Int) * 1 = lo := by simp
    have e2 : (((hi - lo).toNat : Nat) : Int) - ((0 : Nat) : Int) = Builtin.Range.rangeSize lo hi 1 := by rw [rangeSize_one]; split <;> omega
    show IsRangeIter _ _ (lo + ((0 : Nat) : Int) * 1) ((((hi - lo).toNat : Nat) : Int) - ((0 : Nat) : Int)) 1
    rw [e1, e2]
    exact Heap.get?_push_size _ rfl
  · have e : b = (s.heap.push { cls := .type "range", data := .fields #[.int lo t, .int hi u, .int 1 v] }).objs.size := by simpa using hb
    subst e
    exact I1.fpOk (Nat.le_refl _) (I1.hok.fresh (Nat.le_refl _))
def iRng1 (ta : TA) : TI := fun σ H R => ta σ H fun vs H1 => ∃ j : Int, vs = [.int j] ∧ -(2 ^ 62) ≤ j ∧ j < 2 ^ 62 ∧ R (Itr 0 j.toNat) H1
theorem pi_range1 {a : Expr} {ta : TA} {p pos : Pos} (hg : Gl X "range") (hm : X.mg "range" = none) (ha : PA X [a] ta) (hs : starEach [a] X.env = [(false, eval a X.env)] := by rfl) : PI X tg (.Call (.Name "range" p) [a] [] pos) (iRng1 ta) := by
  intro pins s σ H R I h
  refine Call_ (ld_blt I hg hm boot_range (PyProof.Rows.callWith_type1 (thn (ha pos pins s σ H _ I h) fun us s1 ⟨vs, H1, I1, r1, q1⟩ => ?_) hs rfl))
  obtain ⟨j, e, q1, q2, q⟩ := q1
  subst e
  cases r1 with
  | cons r rr =>
    cases rr
    obtain ⟨t, rfl⟩ := r
    exact call_range_1 (range_it I1 (by omega) (by omega) q1 q2 (by simpa using q))

/-! ### for -/
/-- W: the invariant by the turn and a measure; N: what the body is to reach -/
def tFor (wi : TI) (g : TG) (tb : TS) : TS := fun D σ H => wi σ H fun J H1 => ∃ W : Nat → Nat → St → Hp → Prop, (∃ m, W 0 m σ H1) ∧ ∀ i m σ H, W i m σ H →
  (J.stop i H ∧ D.nx σ H) ∨ (J.go i H ∧ ∃ N : St → Hp → Prop, (∀ σ' H', N σ' H' → ∃ m', m' < m ∧ W (i + 1) m' σ' H') ∧ ∀ x H', J.yld i H x H' → g x σ H' fun σ2 H2 => tb { D with nx := N, ct := N, bk := D.nx } σ2 H2)
/-- the records at fp as they stand -/
def pinsAt (fp : List Addr) (h : Heap) : List (Addr × Obj) := fp.filterMap fun b => (h.get? b).map fun o => (b, o)
theorem mem_pinsAt {fp : List Addr} {h : Heap} {b : Addr} {o : Obj} (hb : b ∈ fp) (e : h.get? b = some o) : (b, o) ∈ pinsAt fp h := List.mem_filterMap.mpr ⟨b, hb, by rw [e]; rfl⟩
theorem of_pinsAt {fp : List Addr} {h : Heap} {p : Addr × Obj} (hp : p ∈ pinsAt fp h) : p.1 ∈ fp ∧ h.get? p.1 = some p.2 := by
  obtain ⟨b, hb, e⟩ := List.mem_filterMap.mp hp
  cases q : h.get? b with
  | none => rw [q] at e; cases e
  | some o =>
    rw [q] at e
    have e' : (b, o) = p := Option.some.inj e
    subst e'
    exact ⟨hb, q⟩
theorem Inv.pinned {pins : List (Addr × Obj)} {σ : St} {H : Hp} {s : Shared} {fp : List Addr} (I : Inv X pins σ H s) (hf : ∀ b ∈ fp, FpOk X pins H b) (ho : ∀ b ∈ fp, ∃ o, s.heap.get? b = some o ∧ ∀ v, o.data ≠ .cell v) : Inv X (pins ++ pinsAt fp s.heap) σ H s :=
  I.pins_of fun p hp => (List.mem_append.mp hp).elim (fun z => I.pin p (List.mem_append_right _ z)) fun z => by
    obtain ⟨hb, e⟩ := of_pinsAt z
    obtain ⟨f0, f1, f2, _⟩ := hf p.1 hb
    obtain ⟨o, e', d⟩ := ho p.1 hb
    rw [e] at e'; cases e'
    exact ⟨e, f0, f1, f2, d⟩
theorem Inv.unpinned {pins pl : List (Addr × Obj)} {σ : St} {H : Hp} {s : Shared} (I : Inv X (pins ++ pl) σ H s) : Inv X pins σ H s := I.pins_of fun p hp => I.pin p (List.mem_append_right _ (List.mem_append_left _ hp))
theorem ps_for {iter : Expr} {body : List Stmt} {wi : TI} {g : TG} {tb : TS} {pos : Pos} (hp : PassesOwn (model X.prog X.w) X.A X.env X.xe) (hc : X.calm = true) (hi : PI X tg iter wi) (hg : PG X tg g) (hb : PSs X body tb)
    (hs : ∀ x, foldedSetIterable iter X.env x = pure x := by intro _; rfl) : PS X (.For tg iter body [] pos) (tFor wi g tb) := by
  intro pins s σ H D I h
  refine wpAny_For (thn (hi pins s σ H _ I h) fun v s1 h1 => thn h1 fun itv s2 h2 => ?_) hs
  obtain ⟨it, fp, tn, J, H2, e, I2, T, st2, f2, W, ⟨m0, w0⟩, turn⟩ := h2
  subst e
  -- what stays true of the iterator's objects through the loop
  have stat : ∀ {H' : Hp}, (∀ b ∈ fp, H' b = none) → ∀ b ∈ fp, FpOk X pins H' b := fun hn b hb => ⟨hn b hb, (f2 b hb).2⟩
  refine codeAny_forLoop_any (fun n s' => ∃ i σ' H', Inv X pins σ' H' s' ∧ tn i s'.heap ∧ (∀ b ∈ fp, H' b = none) ∧ W i n σ' H') ?_ m0 ⟨0, σ, H2, I2, st2, fun b hb => (f2 b hb).1, w0⟩
  rintro n s3 ⟨i, σ3, H3, I3, st3, fr3, w3⟩
  rcases turn i n σ3 H3 w3 with ⟨stop, qn⟩ | ⟨go, N, hN, step⟩
  · refine wpAny_passesOwn hp (thn (T.done X rfl rfl rfl hc i pins s3 σ3 H3 X.xe I3 (stat fr3) st3 stop) fun r s4 ⟨hr, I4⟩ => ?_)
    subst hr
    exact wpAny_execs_nil ⟨σ3, H3, I4, qn⟩
  · refine wpAny_passesOwn hp (thn (T.item X rfl rfl rfl hc i pins s3 σ3 H3 X.xe I3 (stat fr3) st3 go) fun r s4 ⟨u, hr, h4⟩ => ?_)
    subst hr
    refine wpAny_passesOwn hp (thn h4 fun _ s5 ⟨x, H5, I5, r5, y5, st5, fr5⟩ => ?_)
    have I5' := I5.pinned (stat fr5) (T.obj _ _ st5)
    refine wpAny_passesOwn hp (thn (hg _ s5 σ3 H5 x u _ I5' r5 (step x H5 y5)) fun _ s6 ⟨σ6, H6, I6, q6⟩ => ?_)
    refine wpAny_passesOwn hp (thn (hb _ s6 σ6 H6 _ I6 q6) fun f s7 q7 => ?_)
    have again : ∀ {σ7 : St} {H7 : Hp}, Inv X (pins ++ pinsAt fp s5.heap) σ7 H7 s7 → N σ7 H7 → ∃ m, m < n ∧ ∃ i σ' H', Inv X pins σ' H' s7 ∧ tn i s7.heap ∧ (∀ b ∈ fp, H' b = none) ∧ W i m σ' H' := fun {σ7 H7} I7 n7 => by
      obtain ⟨m', hm, w7⟩ := hN σ7 H7 n7
      refine ⟨m', hm, i + 1, σ7, H7, I7.unpinned, T.keep _ _ _ st5 fun b hb o e => (I7.pin (b, o) (List.mem_append_right _ (List.mem_append_right _ (mem_pinsAt hb e)))).1, fun b hb => ?_, w7⟩
      obtain ⟨o, e, d⟩ := T.obj _ _ st5 b hb
      exact (I7.pin (b, o) (List.mem_append_right _ (List.mem_append_right _ (mem_pinsAt hb e)))).2.1
    cases f with
    | next => obtain ⟨σ7, H7, I7, n7⟩ := q7; exact again I7 n7
    | cont => obtain ⟨σ7, H7, I7, n7⟩ := q7; exact again I7 n7
    | brk => obtain ⟨σ7, H7, I7, q7⟩ := q7; exact ⟨σ7, H7, I7.unpinned, q7⟩
    | ret v => obtain ⟨x7, σ7, H7, I7, r7, q7⟩ := q7; exact ⟨x7, σ7, H7, I7.unpinned, r7, q7⟩
end

/-! ### the forms one uses -/
/-- over a list that the body leaves as it is -/
theorem for_list {K : PySem.W.Frag} {a : Addr} {xs : List V} {g : TG} {tb : TS} {D : Ends} {σ : St} {H : Hp} (Pv : Nat → St → Hp → Prop) (h0 : Pv 0 σ H) (hl : ∀ i σ H, i ≤ xs.length → Pv i σ H → SqL K H a xs)
    (hs : ∀ i x σ H, xs[i]? = some x → Pv i σ H → g x σ H fun σ2 H2 => tb { D with nx := Pv (i + 1), ct := Pv (i + 1), bk := D.nx } σ2 H2) (hd : ∀ σ H, Pv xs.length σ H → D.nx σ H) :
    ∃ W : Nat → Nat → St → Hp → Prop, (∃ m, W 0 m σ H) ∧ ∀ i m σ H, W i m σ H →
      ((Itl K a).stop i H ∧ D.nx σ H) ∨ ((Itl K a).go i H ∧ ∃ N : St → Hp → Prop, (∀ σ' H', N σ' H' → ∃ m', m' < m ∧ W (i + 1) m' σ' H') ∧ ∀ x H', (Itl K a).yld i H x H' → g x σ H' fun σ2 H2 => tb { D with nx := N, ct := N, bk := D.nx } σ2 H2) := by
  refine ⟨fun i m σ H => m = xs.length - i ∧ i ≤ xs.length ∧ Pv i σ H, ⟨xs.length, by simp, Nat.zero_le _, h0⟩, ?_⟩
  rintro i m σ H ⟨rfl, hi, p⟩
  have q := hl i σ H hi p
  by_cases hlt : i < xs.length
  · refine .inr ⟨⟨xs, xs[i], q, by simp [hlt]⟩, Pv (i + 1), fun σ' H' p' => ⟨xs.length - (i + 1), by omega, rfl, hlt, p'⟩, fun x H' y => ?_⟩
    obtain ⟨e, y⟩ := y
    subst e
    exact hs i x σ _ (y xs q) p
  · have e : i = xs.length := by omega
    subst e
    exact .inl ⟨⟨xs, q, Nat.le_refl _⟩, hd σ H p⟩
theorem for_range {lo : Int} {n : Nat} {g : TG} {tb : TS} {D : Ends} {σ : St} {H : Hp} (Pv : Nat → St → Hp → Prop) (h0 : Pv 0 σ H)
    (hs : ∀ i σ H, i < n → Pv i σ H → g (.int (lo + i)) σ H fun σ2 H2 => tb { D with nx := Pv (i + 1), ct := Pv (i + 1), bk := D.nx } σ2 H2) (hd : ∀ σ H, Pv n σ H → D.nx σ H) :
    ∃ W : Nat → Nat → St → Hp → Prop, (∃ m, W 0 m σ H) ∧ ∀ i m σ H, W i m σ H →
      ((Itr lo n).stop i H ∧ D.nx σ H) ∨ ((Itr lo n).go i H ∧ ∃ N : St → Hp → Prop, (∀ σ' H', N σ' H' → ∃ m', m' < m ∧ W (i + 1) m' σ' H') ∧ ∀ x H', (Itr lo n).yld i H x H' → g x σ H' fun σ2 H2 => tb { D with nx := N, ct := N, bk := D.nx } σ2 H2) := by
  refine ⟨fun i m σ H => m = n - i ∧ i ≤ n ∧ Pv i σ H, ⟨n, by simp, Nat.zero_le _, h0⟩, ?_⟩
  rintro i m σ H ⟨rfl, hi, p⟩
  by_cases hlt : i < n
  · refine .inr ⟨hlt, Pv (i + 1), fun σ' H' p' => ⟨n - (i + 1), by omega, rfl, hlt, p'⟩, fun x H' y => ?_⟩
    obtain ⟨e, y⟩ := y
    subst e y
    exact hs i σ _ hlt p
  · have e : i = n := by omega
    subst e
    exact .inl ⟨Nat.le_refl _, hd σ H p⟩
/-- while, by a word and a measure of the state -/
theorem while_by {c : TT} {tb : TS} {D : Ends} {σ : St} {H : Hp} (Pv : St → Hp → Prop) (μ : St → Hp → Nat) (h0 : Pv σ H)
    (hs : ∀ σ H, Pv σ H → c σ H fun b H1 => if b = true then tb { D with nx := fun σ' H' => Pv σ' H' ∧ μ σ' H' < μ σ H, ct := fun σ' H' => Pv σ' H' ∧ μ σ' H' < μ σ H, bk := D.nx } σ H1 else D.nx σ H1)
    (mono : ∀ σ H Q Q', (∀ b H1, Q b H1 → Q' b H1) → c σ H Q → c σ H Q') : tWhile c tb D σ H := by
  refine ⟨fun m σ H => m = μ σ H ∧ Pv σ H, ⟨_, rfl, h0⟩, ?_⟩
  rintro m σ H ⟨rfl, p⟩
  refine mono σ H _ _ (fun b H1 q => ?_) (hs σ H p)
  cases b with
  | true => exact ⟨_, fun σ' H' ⟨p', l⟩ => ⟨_, l, rfl, p'⟩, q⟩
  | false => exact q
end L2

namespace L2
open PySem PySem.Spec PyProof.Rows

abbrev R2 := V → V → Hp → VK → Prop
/-- a two-place operation on values: f is binaryOp op, inplaceOp op or compareOp op -/
def OpR (X : Cx) (f : Value → Value → Sem Value) (r : R2) : Prop :=
  ∀ (pins : List (Addr × Obj)) (s : Shared) (σ : St) (H : Hp) (x y : V) (v u : Value) (Q : VK), Inv X pins σ H s → RelV x v → RelV y u → r x y H Q →
    wpAny (model X.prog X.w) X.A (f v u) (EP X pins σ Q) X.xe s
/-- a call of a value that is known (a builtin, a type) with values -/
def CallR (X : Cx) (f : Value) (r : List V → Hp → VK → Prop) : Prop :=
  ∀ (pins : List (Addr × Obj)) (s : Shared) (σ : St) (H : Hp) (xs : List V) (us : List Value) (Q : VK), Inv X pins σ H s → Vals xs us → r xs H Q →
    wpAny (model X.prog X.w) X.A (call f us) (EP X pins σ Q) X.xe s

def tOp (r : R2) (ta tb : TE) : TE := fun σ H Q => ta σ H fun x H1 => tb σ H1 fun y H2 => r x y H2 Q
/-- ints in, under C, and a value out -/
def rI (C : Int → Int → Prop) (g : Int → Int → V) : R2 := fun x y H Q => ∃ i j, x = .int i ∧ y = .int j ∧ C i j ∧ Q (g i j) H
def rI0 (g : Int → Int → V) : R2 := fun x y H Q => ∃ i j, x = .int i ∧ y = .int j ∧ Q (g i j) H

section
variable {X : Cx} {a b c : Expr} {ta tb tc : TE} {pos : Pos}

theorem binT (ha : PE X a ta) (hb : PE X b tb) {pins : List (Addr × Obj)} {s : Shared} {σ : St} {H : Hp} {R : V → V → Hp → Prop} (I : Inv X pins σ H s)
    (h : ta σ H fun x H1 => tb σ H1 fun y H2 => R x y H2) {Q : Value → Shared → Prop} {f : Value → Value → Sem Value}
    (hf : ∀ v u s2 x y H2, Inv X pins σ H2 s2 → RelV x v → RelV y u → R x y H2 → wpAny (model X.prog X.w) X.A (f v u) Q X.xe s2) :
    wpAny (model X.prog X.w) X.A (eval a X.env) (fun v s₁ => wpAny (model X.prog X.w) X.A (eval b X.env) (fun u s₂ => wpAny (model X.prog X.w) X.A (f v u) Q X.xe s₂) X.xe s₁) X.xe s := by
  refine thn (ha pins s σ H _ I h) fun v s1 ⟨x, H1, I1, r1, q1⟩ => ?_
  refine thn (hb pins s1 σ H1 _ I1 q1) fun u s2 ⟨y, H2, I2, r2, q2⟩ => ?_
  exact hf v u s2 x y H2 I2 r1 r2 q2

theorem pe_op {op : Operator} {r : R2} (ho : OpR X (binaryOp op) r) (ha : PE X a ta) (hb : PE X b tb) : PE X (.BinOp a op b pos) (tOp r ta tb) := by
  intro pins s σ H Q I h
  exact wpAny_BinOp (binT ha hb I h fun v u s2 x y H2 I2 rx ry q => ho pins s2 σ H2 x y v u Q I2 rx ry q)

/-! ### ints -/
theorem opI {f : Value → Value → Sem Value} {C : Int → Int → Prop} {g : Int → Int → Int}
    (rule : ∀ (i j : Int) (t u : Tok) (s : Shared) (Q : Value → Shared → Prop) (E : Value → Shared → Prop), C i j → Q (.int (g i j) s.toks) { s with toks := s.toks + 1 } → wpAny (model X.prog X.w) X.A (f (.int i t) (.int j u)) Q E s) :
    OpR X f (rI C fun i j => .int (g i j)) := by
  intro pins s σ H x y v u Q I rx ry h
  obtain ⟨i, j, rfl, rfl, hc, q⟩ := h
  obtain ⟨t, rfl⟩ := rx
  obtain ⟨t', rfl⟩ := ry
  exact rule i j t t' s _ _ hc ⟨.int (g i j), H, I.tok _, ⟨_, rfl⟩, q⟩
theorem opI0 {f : Value → Value → Sem Value} {g : Int → Int → Int}
    (rule : ∀ (i j : Int) (t u : Tok) (s : Shared) (Q : Value → Shared → Prop) (E : Value → Shared → Prop), Q (.int (g i j) s.toks) { s with toks := s.toks + 1 } → wpAny (model X.prog X.w) X.A (f (.int i t) (.int j u)) Q E s) :
    OpR X f (rI0 fun i j => .int (g i j)) := by
  intro pins s σ H x y v u Q I rx ry h
  obtain ⟨i, j, rfl, rfl, q⟩ := h
  obtain ⟨t, rfl⟩ := rx
  obtain ⟨t', rfl⟩ := ry
  exact rule i j t t' s _ _ ⟨.int (g i j), H, I.tok _, ⟨_, rfl⟩, q⟩
theorem opB0 {f : Value → Value → Sem Value} {g : Int → Int → Bool}
    (rule : ∀ (i j : Int) (t u : Tok) (s : Shared) (Q : Value → Shared → Prop) (E : Value → Shared → Prop), Q (.bool (g i j)) s → wpAny (model X.prog X.w) X.A (f (.int i t) (.int j u)) Q E s) :
    OpR X f (rI0 fun i j => .bl (g i j)) := by
  intro pins s σ H x y v u Q I rx ry h
  obtain ⟨i, j, rfl, rfl, q⟩ := h
  obtain ⟨t, rfl⟩ := rx
  obtain ⟨t', rfl⟩ := ry
  exact rule i j t t' s _ _ ⟨.bl (g i j), H, I, rfl, q⟩

def CDiv (i j : Int) : Prop := 0 < j ∧ j < 1073741824
def CPow (i j : Int) : Prop := 0 ≤ j ∧ j ≤ 1000000 ∧ i.natAbs < 2 ^ 64
def CMul (i j : Int) : Prop := (-(2 ^ 64) < i ∧ i < 2 ^ 64) ∨ (-(2 ^ 64) < j ∧ j < 2 ^ 64)
theorem CMul.ok {i j : Int} (h : CMul i j) : IntMulOk i j := by
  rcases h with ⟨h1, h2⟩ | ⟨h1, h2⟩
  · exact .of_left (intBits_le_64 h1 h2)
  · exact .of_right (intBits_le_64 h1 h2)

theorem op_add : OpR X (binaryOp .Add) (rI0 fun i j => .int (i + j)) := opI0 fun _ _ _ _ _ _ _ q => add_int q
theorem op_sub : OpR X (binaryOp .Sub) (rI0 fun i j => .int (i - j)) := opI0 fun _ _ _ _ _ _ _ q => sub_int q
theorem op_mul : OpR X (binaryOp .Mult) (rI CMul fun i j => .int (i * j)) := opI fun _ _ _ _ _ _ _ hc q => mul_int q hc.ok
/-- // by a positive divisor -/
theorem op_fdiv : OpR X (binaryOp .FloorDiv) (rI CDiv fun i j => .int (i / j)) := opI fun i j _ _ _ _ _ hc q => by
  have h1 : (0 : Int) < j := hc.1
  have h2 : j < 1073741824 := hc.2
  exact floordiv_int (by omega) (by rw [Int.fdiv_eq_ediv_of_nonneg i (by omega)]; exact q) (.inl (PyProof.noPylong_small (by omega)))
/-- % by a positive divisor of any size -/
theorem op_mod : OpR X (binaryOp .Mod) (rI (fun _ j => 0 < j) fun i j => .int (i % j)) := opI fun i j _ _ _ _ _ hc q => by
  have h1 : (0 : Int) < j := hc
  exact mod_int' (by omega) (by rw [Int.fmod_eq_emod_of_nonneg i (by omega)]; exact q)
theorem op_pow : OpR X (binaryOp .Pow) (rI CPow fun i j => .int (i ^ j.toNat)) := opI fun _ _ _ _ _ _ _ hc q => pow_int_small hc.1 hc.2.1 hc.2.2 q



/-! ### bools among ints: n += (a < b) -/
end

/-! ### comparisons -/
/-- the scalars that == tells apart as data does -/
def scal : V → V → Bool
  | .non, .non => true | .non, .int _ => true | .int _, .non => true | .non, .bl _ => true | .bl _, .non => true | .non, .str _ => true | .str _, .non => true
  | .int _, .int _ => true | .bl _, .bl _ => true | .str _, .str _ => true | .byt _, .byt _ => true
  | .int _, .str _ => true | .str _, .int _ => true | .bl _, .str _ => true | .str _, .bl _ => true
  | _, _ => false
def rEq : R2 := fun x y H Q => scal x y = true ∧ Q (.bl (decide (x = y))) H
def rNe : R2 := fun x y H Q => scal x y = true ∧ Q (.bl (!decide (x = y))) H

theorem dec_int {i j : Int} : decide (V.int i = V.int j) = (i == j) := by
  rw [Bool.eq_iff_iff]
  simp
theorem dec_bl {i j : Bool} : decide (V.bl i = V.bl j) = (i == j) := by
  rw [Bool.eq_iff_iff]
  simp
theorem dec_str {i j : Str} : decide (V.str i = V.str j) = (i == j) := by
  rw [Bool.eq_iff_iff]
  simp
theorem dec_byt {i j : Array UInt8} : decide (V.byt i = V.byt j) = (i.toList == j.toList) := by
  rw [Bool.eq_iff_iff]
  cases i
  cases j
  simp

section
variable {X : Cx} {a b c : Expr} {ta tb tc : TE} {pos : Pos}
theorem fin_bl {pins : List (Addr × Obj)} {σ : St} {H : Hp} {s : Shared} {Q : VK} {k k' : Bool} (I : Inv X pins σ H s) (q : Q (.bl k) H) (e : k = k') : EP X pins σ Q (.bool k') s := by
  subst e
  exact ⟨.bl k, H, I, rfl, q⟩
theorem op_eq : OpR X (compareOp .Eq) rEq := by
  intro pins s σ H x y v u Q I rx ry h
  obtain ⟨hs, q⟩ := h
  cases x with
  | non =>
    cases rx
    cases y with
    | non => cases ry; exact PySem.EqNone.eq_none_none (fin_bl I q (by simp))
    | bl j => cases ry; exact PySem.EqNone.eq_none_bool (fin_bl I q (by simp))
    | int j => obtain ⟨t', rfl⟩ := ry; exact PySem.EqNone.eq_none_int (fin_bl I q (by simp))
    | str j => obtain ⟨t', rfl⟩ := ry; exact PySem.EqNone.eq_none_str (fin_bl I q (by simp))
    | _ => exact absurd (show false = true from hs) Bool.false_ne_true
  | bl i =>
    cases rx
    cases y with
    | non => cases ry; exact PySem.EqNone.eq_bool_none (fin_bl I q (by simp))
    | bl j => cases ry; exact eq_bool (fin_bl I q dec_bl)
    | str j => obtain ⟨t', rfl⟩ := ry; exact PySem.EqMixed.eq_bool_str (fin_bl I q (by simp))
    | _ => exact absurd (show false = true from hs) Bool.false_ne_true
  | int i =>
    obtain ⟨t, rfl⟩ := rx
    cases y with
    | non => cases ry; exact PySem.EqNone.eq_int_none (fin_bl I q (by simp))
    | int j => obtain ⟨t', rfl⟩ := ry; exact eq_int (fin_bl I q dec_int)
    | str j => obtain ⟨t', rfl⟩ := ry; exact PySem.EqMixed.eq_int_str (fin_bl I q (by simp))
    | _ => exact absurd (show false = true from hs) Bool.false_ne_true
  | str i =>
    obtain ⟨t, rfl⟩ := rx
    cases y with
    | non => cases ry; exact PySem.EqNone.eq_str_none (fin_bl I q (by simp))
    | bl j => cases ry; exact PySem.EqMixed.eq_str_bool (fin_bl I q (by simp))
    | int j => obtain ⟨t', rfl⟩ := ry; exact PySem.EqMixed.eq_str_int (fin_bl I q (by simp))
    | str j => obtain ⟨t', rfl⟩ := ry; exact eq_str (fin_bl I q dec_str)
    | _ => exact absurd (show false = true from hs) Bool.false_ne_true
  | byt i =>
    obtain ⟨t, rfl⟩ := rx
    cases y with
    | byt j => obtain ⟨t', rfl⟩ := ry; exact PySem.W.eq_bytes (fin_bl I q dec_byt)
    | _ => exact absurd (show false = true from hs) Bool.false_ne_true
  | _ => cases y <;> exact absurd (show false = true from hs) Bool.false_ne_true
theorem op_ne : OpR X (compareOp .NotEq) rNe := by
  intro pins s σ H x y v u Q I rx ry h
  obtain ⟨hs, q⟩ := h
  cases x with
  | non =>
    cases rx
    cases y with
    | non => cases ry; exact PySem.EqNone.ne_none_none (fin_bl I q (by simp))
    | bl j => cases ry; exact PySem.EqNone.ne_none_bool (fin_bl I q (by simp))
    | int j => obtain ⟨t', rfl⟩ := ry; exact PySem.EqNone.ne_none_int (fin_bl I q (by simp))
    | str j => obtain ⟨t', rfl⟩ := ry; exact PySem.EqNone.ne_none_str (fin_bl I q (by simp))
    | _ => exact absurd (show false = true from hs) Bool.false_ne_true
  | bl i =>
    cases rx
    cases y with
    | non => cases ry; exact PySem.EqNone.ne_bool_none (fin_bl I q (by simp))
    | bl j => cases ry; exact ne_bool (fin_bl I q (congrArg not dec_bl))
    | str j => obtain ⟨t', rfl⟩ := ry; exact PySem.EqMixed.ne_bool_str (fin_bl I q (by simp))
    | _ => exact absurd (show false = true from hs) Bool.false_ne_true
  | int i =>
    obtain ⟨t, rfl⟩ := rx
    cases y with
    | non => cases ry; exact PySem.EqNone.ne_int_none (fin_bl I q (by simp))
    | int j => obtain ⟨t', rfl⟩ := ry; exact ne_int (fin_bl I q (congrArg not dec_int))
    | str j => obtain ⟨t', rfl⟩ := ry; exact PySem.EqMixed.ne_int_str (fin_bl I q (by simp))
    | _ => exact absurd (show false = true from hs) Bool.false_ne_true
  | str i =>
    obtain ⟨t, rfl⟩ := rx
    cases y with
    | non => cases ry; exact PySem.EqNone.ne_str_none (fin_bl I q (by simp))
    | bl j => cases ry; exact PySem.EqMixed.ne_str_bool (fin_bl I q (by simp))
    | int j => obtain ⟨t', rfl⟩ := ry; exact PySem.EqMixed.ne_str_int (fin_bl I q (by simp))
    | str j => obtain ⟨t', rfl⟩ := ry; exact ne_str (fin_bl I q (congrArg not dec_str))
    | _ => exact absurd (show false = true from hs) Bool.false_ne_true
  | byt i =>
    obtain ⟨t, rfl⟩ := rx
    cases y with
    | byt j => obtain ⟨t', rfl⟩ := ry; exact PySem.W.ne_bytes (fin_bl I q (congrArg not dec_byt))
    | _ => exact absurd (show false = true from hs) Bool.false_ne_true
  | _ => cases y <;> exact absurd (show false = true from hs) Bool.false_ne_true

theorem op_lt : OpR X (compareOp .Lt) (rI0 fun i j => .bl (decide (i < j))) := opB0 fun _ _ _ _ _ _ _ q => lt_int q
theorem op_le : OpR X (compareOp .LtE) (rI0 fun i j => .bl (decide (i ≤ j))) := opB0 fun _ _ _ _ _ _ _ q => le_int q
theorem op_gt : OpR X (compareOp .Gt) (rI0 fun i j => .bl (decide (j < i))) := opB0 fun _ _ _ _ _ _ _ q => gt_int q

/-- is None, is not None: the right side a value none -/
theorem op_isN : OpR X (compareOp .Is) (fun x y H Q => y = .non ∧ Q (.bl (decide (x = .non))) H) := by
  intro pins s σ H x y v u Q I rx ry h
  obtain ⟨rfl, q⟩ := h
  cases ry
  refine is_none_gen (fin_bl I q ?_)
  cases x <;> first
    | (cases rx; rfl)
    | (obtain ⟨t, rfl⟩ := rx; rfl)
theorem op_notN : OpR X (compareOp .IsNot) (fun x y H Q => y = .non ∧ Q (.bl (!decide (x = .non))) H) := by
  intro pins s σ H x y v u Q I rx ry h
  obtain ⟨rfl, q⟩ := h
  cases ry
  refine isnot_none_gen (fin_bl I q ?_)
  cases x <;> first
    | (cases rx; rfl)
    | (obtain ⟨t, rfl⟩ := rx; rfl)



theorem nomark (b : Expr) {op : CmpOp} (h : op ≠ .In := by decide) (h2 : op ≠ .NotIn := by decide) : behindInMarks op b = false := by
  have e1 : (op == CmpOp.In) = false := by cases op <;> first | rfl | exact absurd rfl h
  have e2 : (op == CmpOp.NotIn) = false := by cases op <;> first | rfl | exact absurd rfl h2
  cases b <;> simp [behindInMarks, e1, e2]
/-- a comparison as a value; hm: nomark b, or (for in, not in) by with_unfolding_all rfl -/
theorem pe_cmpR {op : CmpOp} {r : R2} (ho : OpR X (compareOp op) r) (ha : PE X a ta) (hb : PE X b tb) (hm : behindInMarks op b = false) : PE X (.Compare a [op] [b] pos) (tOp r ta tb) := by
  intro pins s σ H Q I h
  exact wpAny_Compare1 (binT ha hb I h fun v u s2 x y H2 I2 rx ry q => ho pins s2 σ H2 x y v u Q I2 rx ry q) hm
/-- a reading of a value as a test -/
def tTest (t : TE) : TT := fun σ H Q => t σ H fun x H' => ∃ k, x = .bl k ∧ Q k H'
theorem pt_cmpR {op : CmpOp} {r : R2} (ho : OpR X (compareOp op) r) (ha : PE X a ta) (hb : PE X b tb) (hm : behindInMarks op b = false) : PT X (.Compare a [op] [b] pos) (tTest (tOp r ta tb)) := by
  intro pins s σ H Q I h
  refine wpAny_isTrue_Compare1 (thn (ha pins s σ H _ I h) fun v s1 ⟨x, H1, I1, r1, q1⟩ => thn (hb pins s1 σ H1 _ I1 q1) fun u s2 ⟨y, H2, I2, r2, q2⟩ =>
    thn (ho pins s2 σ H2 x y v u _ I2 r1 r2 q2) fun c s3 ⟨z, H3, I3, r3, k, e, q3⟩ => ?_) hm
  subst e
  cases r3
  exact wpAny_truthy_bool ⟨H3, I3, q3⟩
/-- a op1 b op2 c -/
def tChain (r r' : R2) (ta tb tc : TE) : TE := fun σ H Q => ta σ H fun x H1 => tb σ H1 fun y H2 => r x y H2 fun z H3 => ∃ k, z = .bl k ∧
  (if k = true then tc σ H3 fun w' H4 => r' y w' H4 Q else Q (.bl false) H3)
theorem pe_chain {op op' : CmpOp} {r r' : R2} (ho : OpR X (compareOp op) r) (ho' : OpR X (compareOp op') r') (ha : PE X a ta) (hb : PE X b tb) (hc : PE X c tc)
    (hm : lastMarks [op, op'] [b, c] = false := by with_unfolding_all rfl) : PE X (.Compare a [op, op'] [b, c] pos) (tChain r r' ta tb tc) := by
  intro pins s σ H Q I h
  refine Compare_chain (thn (ha pins s σ H _ I h) fun v s1 ⟨x, H1, I1, r1, q1⟩ => chain_link (thn (hb pins s1 σ H1 _ I1 q1) fun u s2 ⟨y, H2, I2, r2, q2⟩ =>
    thn (ho pins s2 σ H2 x y v u _ I2 r1 r2 q2) fun d s3 ⟨z, H3, I3, r3, k, e, q3⟩ => ?_)) hm
  subst e
  cases r3
  refine wpAny_truthy_bool ?_
  cases k with
  | false => exact ite_ff ⟨.bl false, H3, I3, rfl, q3⟩
  | true => exact ite_tt (chain_last (thn (hc pins s3 σ H3 _ I3 q3) fun w' s4 ⟨z', H4, I4, r4, q4⟩ => ho' pins s4 σ H4 y z' u w' Q I4 r2 r4 q4))

/-! ### truth -/
theorem line63 : (sizeLine : Nat) < 2 ^ 63 := by rw [sizeLine_eq]; decide

/-! ### strs and bytes -/
theorem op_add_str : OpR X (binaryOp .Add) (fun x y H Q => ∃ i j, x = .str i ∧ y = .str j ∧ i.length + j.length ≤ sizeLine ∧ Q (.str (i ++ j)) H) := by
  intro pins s σ H x y v u Q I rx ry h
  obtain ⟨i, j, rfl, rfl, hz, q⟩ := h
  obtain ⟨t, rfl⟩ := rx
  obtain ⟨t', rfl⟩ := ry
  exact add_str (fun t' tk => ⟨.str (i ++ j), H, I.tok _, ⟨_, rfl⟩, q⟩) hz


/-! ### scalar builtins, by CallR -/
theorem vals1 {x : V} {us : List Value} (r : Vals [x] us) : ∃ u, us = [u] ∧ RelV x u := by
  cases r with
  | cons r1 r2 => cases r2; exact ⟨_, rfl, r1⟩
theorem vals2 {x y : V} {us : List Value} (r : Vals [x, y] us) : ∃ u w', us = [u, w'] ∧ RelV x u ∧ RelV y w' := by
  cases r with
  | cons r1 r2 =>
    cases r2 with
    | cons r3 r4 => cases r4; exact ⟨_, _, rfl, r1, r3⟩
theorem call_min2 (hc : X.calm = true) : CallR X (.builtin "min") (fun xs H Q => ∃ i j, xs = [.int i, .int j] ∧ Q (.int (if j < i then j else i)) H) := by
  intro pins s σ H xs us Q I r h
  obtain ⟨i, j, rfl, q⟩ := h
  obtain ⟨u, w', rfl, ⟨t, rfl⟩, ⟨t', rfl⟩⟩ := vals2 r
  refine min_two_ints (I.ok.hd hc) fun h' tk k => ⟨_, H, I.kept k, ?_, q⟩
  by_cases hj : j < i
  · rw [if_pos hj, if_pos hj]; exact ⟨_, rfl⟩
  · rw [if_neg hj, if_neg hj]; exact ⟨_, rfl⟩
theorem call_int1 : CallR X (.type "int") (fun xs H Q => (∃ i, xs = [.int i] ∧ Q (.int i) H) ∨ ∃ k, xs = [.bl k] ∧ Q (.int (if k then 1 else 0)) H) := by
  intro pins s σ H xs us Q I r h
  rcases h with ⟨i, rfl, q⟩ | ⟨k, rfl, q⟩
  · obtain ⟨u, rfl, t, rfl⟩ := vals1 r
    exact call_int_int ⟨.int i, H, I, ⟨_, rfl⟩, q⟩
  · obtain ⟨u, rfl, r1⟩ := vals1 r
    cases r1
    exact call_int_bool ⟨.int (if k then 1 else 0), H, I.tok _, ⟨_, rfl⟩, q⟩
end
end L2

namespace L2
open PySem PySem.Spec PyProof.Rows

/-! ### an instance, its attributes a map -/
structure ObjM (h : Heap) (x dx C : Addr) (mA : Str → Option Value) : Prop where
  obj : h.get? x = some (PySem.W.instObj C dx)
  ns : h.Ns1 dx mA
  ne : dx ≠ x

theorem lookIn_ns {h : Heap} {dx : Addr} {mA : Str → Option Value} (n : h.Ns1 dx mA) : ∃ od, h.get? dx = some od ∧ ∀ name, PySem.W.lookIn name od = some (mA name) := by
  obtain ⟨o, es, ep, ho, hd, hk, _, hm⟩ := n
  refine ⟨o, ho, fun name => ?_⟩
  have e := hm name
  unfold nsFind findBy at e
  rw [← Array.find?_toList] at e
  unfold PySem.W.lookIn
  rw [hd]
  dsimp only
  split
  · rename_i y q
    rw [q] at e
    exact congrArg some e
  · rename_i q
    rw [q] at e
    have a : es.toList.any (·.refKey) = false := by
      rw [List.any_eq_false]
      intro y hy
      obtain ⟨z, t, hkey⟩ := hk y (Array.mem_toList_iff.mp hy)
      simp [DictEntry.refKey, hkey]
    have a' : ¬ es.toList.any (·.refKey) = true := by rw [a]; exact Bool.false_ne_true
    rw [if_neg a']
    exact congrArg some e

theorem ObjM.look {h : Heap} {x dx C : Addr} {mA : Str → Option Value} (I : ObjM h x dx C mA) : ∃ od, PySem.W.InstAt h x (PySem.W.instObj C dx) C (some od) ∧ ∀ name, PySem.W.lookIn name od = some (mA name) :=
  let ⟨od, ho, hl⟩ := lookIn_ns I.ns
  ⟨od, ⟨I.obj, rfl, rfl, ho⟩, hl⟩

section
variable {prog : Program} {w : World} {A : Around} {E : Value → Shared → Prop} {s : Shared} {K : PySem.W.Frag} {x dx C f : Addr} {mA : Str → Option Value} {name : Str} {v : Value}

theorem get_map {expr : Bool} {Q : Value → Shared → Prop} (X : K.In s.heap) (I : ObjM s.heap x dx C mA) (hg : PySem.W.plainGet K C name = true) (hh : PySem.W.hasDictIn K C = true)
    (ha : PySem.W.findIn K (.ref C) name = some none) (hv : mA name = some v) (hv' : PySem.W.handedIn v = true) (h : Q v { s with toks := s.toks + 1 }) :
    wpAny (model prog w) A (getAttr (.ref x) name expr) Q E s := by
  obtain ⟨od, J, hl⟩ := I.look
  exact PySem.W.get_value X J (PySem.W.plainGet_of hg).1 (PySem.W.findObj_own hh ha rfl (by rw [hl, hv])) hv' h


theorem get_meth {pl : Sem Bool} {Q : Value × List Value → Shared → Prop} (X : K.In s.heap) (I : ObjM s.heap x dx C mA) (hg : PySem.W.plainGet K C name = true)
    (hf : PySem.W.findIn K (.ref C) name = some (some (.ref f))) (ht : PySem.W.isFn K (.ref f) = true) (hv : mA name = none) (h : Q (.ref f, [.ref x]) s) :
    wpAny (model prog w) A (getMethod (.ref x) name pl) Q E s := by
  obtain ⟨od, J, hl⟩ := I.look
  exact PySem.W.method_fn X J (PySem.W.plainGet_of hg).1 (PySem.W.plainGet_of hg).2 hf (beq_iff_eq.mp ht) (by show (PySem.W.lookIn name od).map (·.isSome) = some false; rw [hl, hv]; rfl) h

theorem set_map {ns : List Str} {Q : Unit → Shared → Prop} (X : K.In s.heap) (I : ObjM s.heap x dx C mA)
    (hs : PySem.W.findIn K (.ref C) "__setattr__" = some (some (.builtin "object.__setattr__"))) (hp : PySem.W.plainOver K C = true) (ht : PySem.W.takerIn K C name = some none) (hh : PySem.W.hasDictIn K C = true)
    (hw : PySem.Within mA ns) (hsz : ns.length ≤ sizeLine)
    (h : ∀ h', ObjM h' x dx C (fun y => if y = name then some v else mA y) → Heap.SameBut dx s.heap h' → Q () { s with heap := h', toks := s.toks + 2 }) :
    wpAny (model prog w) A (setAttr (.ref x) name v) Q E s := by
  obtain ⟨od, J, hl⟩ := I.look
  refine PySem.W.set_plain X J hs (PySem.W.osa_open (s := { s with toks := s.toks + 1 }) (r := none) X J hp ht fun b => ?_)
  obtain ⟨cd, hc, hd'⟩ := PySem.W.any_some hh
  have hx : s.heap.get? x = some ⟨.ref C, some dx, .plain, #[]⟩ := I.obj
  refine wpAny_bind (wpAny_pure (wpAny_bind (wpAny_bind (wpAny_loadPart hx (wpAny_bind (PySem.W.Looks.here (s := { s with toks := s.toks + 1 }) (PySem.W.looks_clsIn X hc) ?_))))))
  rw [hd']
  refine wpAny_pure (a := some dx) (wpAny_bind (wpAny_pure (wpAny_bind ?_)))
  refine wpAny_nsSet1 (s := { s with toks := s.toks + 1 }) I.ns fun h' hn2 hs2 => ?_
  obtain ⟨oD, esD, epD, hoD, hdD, hcD⟩ := hn2.count (PySem.Within.cons name v hw)
  refine wpAny_bind (wpAny_lookBehind hoD (by rw [hdD]; exact pastItsLine_dict (Nat.le_trans hcD (by rw [List.length_cons]; omega))) ?_)
  exact wpAny_pure (h _ ⟨(hs2.2 _ (Ne.symm I.ne)).trans I.obj, hn2, I.ne⟩ hs2)

/-- C(..): the dict at the heap's end, the instance behind it; then its __init__ -/
theorem make_map {R : Result → Shared → Prop} {vs : List Value} {kw : List (Str × Value)} (X : K.In s.heap) (hm : PySem.W.makesIn K C = true)
    (hi : PySem.W.findIn K (.ref C) "__init__" = some (some (.ref f))) (hf : PySem.W.typeIn K (.ref f) = some (.type "function"))
    (h : codeAny (model prog w) (A.under (.builtin "type.__call__" ⟨.ref C :: vs, kw⟩)) (.call (.ref f) ⟨.ref (s.heap.objs.size + 1) :: vs, kw⟩) (PySem.W.InitBack (s.heap.objs.size + 1) R)
      { s with heap := (s.heap.push PySem.W.emptyDict).push (PySem.W.instObj C s.heap.objs.size) }) :
    codeAny (model prog w) A (.call (.ref C) ⟨vs, kw⟩) R s := by
  obtain ⟨hh, g, d, t, os⟩ := s
  exact PySem.W.make_core (PySem.W.makes_of X hm) (PySem.W.looks_findIn X hi) (fun self => PySem.W.bind_fn X self hf) (.inl rfl) h
end

/-! ### the attributes as a list of pairs -/
def putF (f : Str) (v : V) : List (Str × V) → List (Str × V)
  | [] => [(f, v)]
  | (g, x) :: r => if g = f then (g, v) :: r else (g, x) :: putF f v r
theorem lookup_putF (f g : Str) (v : V) : ∀ fs : List (Str × V), (putF f v fs).lookup g = if g = f then some v else fs.lookup g
  | [] => by
    show List.lookup g [(f, v)] = _
    by_cases h : g = f
    · have hb : (g == f) = true := beq_iff_eq.mpr h
      simp only [List.lookup, hb, if_pos h]
    · have hb : (g == f) = false := beq_eq_false_iff_ne.mpr h
      simp only [List.lookup, hb, if_neg h]
  | (k, x) :: r => by
    have ih := lookup_putF f g v r
    rw [show putF f v ((k, x) :: r) = (if k = f then (k, v) :: r else (k, x) :: putF f v r) from rfl]
    by_cases hk : k = f
    · rw [if_pos hk]
      by_cases h : g = k
      · have hb : (g == k) = true := beq_iff_eq.mpr h
        simp only [List.lookup, hb, if_pos (h.trans hk)]
      · have hb : (g == k) = false := beq_eq_false_iff_ne.mpr h
        simp only [List.lookup, hb, if_neg (fun e : g = f => h (e.trans hk.symm))]
    · rw [if_neg hk]
      by_cases h : g = k
      · have hb : (g == k) = true := beq_iff_eq.mpr h
        simp only [List.lookup, hb, if_neg (fun e : g = f => hk (h.symm.trans e))]
      · have hb : (g == k) = false := beq_eq_false_iff_ne.mpr h
        simp only [List.lookup, hb]
        exact ih
theorem keys_putF (f : Str) (v : V) : ∀ fs : List (Str × V), f ∈ (putF f v fs).map (·.1) ∧ ∀ g, g ∈ fs.map (·.1) → g ∈ (putF f v fs).map (·.1)
  | [] => ⟨by simp [putF], fun g h => by simp at h⟩
  | (k, x) :: r => by
    obtain ⟨i1, i2⟩ := keys_putF f v r
    rw [show putF f v ((k, x) :: r) = (if k = f then (k, v) :: r else (k, x) :: putF f v r) from rfl]
    by_cases hk : k = f
    · rw [if_pos hk]
      subst hk
      exact ⟨by simp, fun g h => by simpa using h⟩
    · rw [if_neg hk]
      refine ⟨?_, fun g h => ?_⟩
      · rw [List.map_cons]
        exact List.mem_cons_of_mem _ i1
      · rw [List.map_cons] at h ⊢
        rcases List.mem_cons.mp h with e | e
        · exact List.mem_cons.mpr (.inl e)
        · exact List.mem_cons_of_mem _ (i2 g e)
theorem length_putF (f : Str) (v : V) : ∀ fs : List (Str × V), (putF f v fs).length ≤ fs.length + 1
  | [] => by simp [putF]
  | (k, x) :: r => by
    have ih := length_putF f v r
    rw [show putF f v ((k, x) :: r) = (if k = f then (k, v) :: r else (k, x) :: putF f v r) from rfl]
    by_cases hk : k = f
    · rw [if_pos hk, List.length_cons, List.length_cons]; omega
    · rw [if_neg hk, List.length_cons, List.length_cons]; omega

theorem RelO.some_of {v : V} {o : Option Value} (r : RelO (some v) o) : ∃ u, o = some u ∧ RelV v u := by
  cases o with
  | none => exact (show False from r).elim
  | some u => exact ⟨u, rfl, r⟩
theorem RelO.none_of {o : Option Value} (r : RelO none o) : o = none := by
  cases o with
  | none => rfl
  | some u => exact (show False from r).elim
theorem handed_of {v : V} {u : Value} (r : RelV v u) : PySem.W.handedIn u = true := by
  cases v with
  | non => cases (show u = Value.none from r); rfl
  | bl b => cases (show u = Value.bool b from r); rfl
  | int i => obtain ⟨t, e⟩ := (show ∃ t, u = Value.int i t from r); cases e; rfl
  | str x => obtain ⟨t, e⟩ := (show ∃ t, u = Value.str x t from r); cases e; rfl
  | byt b => obtain ⟨t, e⟩ := (show ∃ t, u = Value.bytes b t from r); cases e; rfl
  | flt b => obtain ⟨t, e⟩ := (show ∃ t, u = Value.float b t from r); cases e; rfl
  | ref a => cases (show u = Value.ref a from r); rfl
  | ty n => cases (show u = Value.type n from r); rfl

section
variable {P : Program} {w : World} {H H' : Hp} {h h' : Heap} {a C dx : Addr} {fs fs' : List (Str × V)}
theorem ins_get (hok : HOk P w H h) (e : H a = some (.ins C dx fs)) : ∃ mA, ObjM h a dx C mA ∧ (∀ f, RelO (fs.lookup f) (mA f)) ∧ PySem.Within mA (fs.map (·.1)) ∧ fs.length ≤ 1000 ∧ H dx = some (.own a) := by
  obtain ⟨d, z, ne, ob, mA, n, r, q⟩ := (show ObjOk P w H h a (.ins C dx fs) from hok a _ e)
  exact ⟨mA, ⟨ob, n, ne⟩, r, q, z, d⟩
end

/-! ### what of the text a class must have -/
structure Cls (K : PySem.W.Frag) (C : Addr) : Prop where
  pg : PySem.W.plainGet K C Str.empty = true
  hd : PySem.W.hasDictIn K C = true
  po : PySem.W.plainOver K C = true
  sa : PySem.W.findIn K (.ref C) "__setattr__" = some (some (.builtin "object.__setattr__"))
theorem Cls.get {K : PySem.W.Frag} {C : Addr} (c : Cls K C) (f : Str) : PySem.W.plainGet K C f = true := c.pg
/-- no class of it has the name -/
def NoAttr (K : PySem.W.Frag) (C : Addr) (f : Str) : Prop := PySem.W.findIn K (.ref C) f = some none
theorem NoAttr.taker {K : PySem.W.Frag} {C : Addr} {f : Str} (n : NoAttr K C f) : PySem.W.takerIn K C f = some none := by
  unfold PySem.W.takerIn
  rw [show PySem.W.findIn K (.ref C) f = some none from n]
  rfl
/-- a method: a plain def of the class or of one above it -/
structure Meth (K : PySem.W.Frag) (C : Addr) (m : Str) (f : Addr) : Prop where
  at_ : PySem.W.findIn K (.ref C) m = some (some (.ref f))
  fn : PySem.W.isFn K (.ref f) = true
  kp : PySem.W.keepIn K (.ref f) = true

section
variable {X : Cx} {pins : List (Addr × Obj)} {σ : St} {H : Hp} {s : Shared} {a C dx : Addr} {fs : List (Str × V)} {f : Str} {v : V} {A : Around} {E : Value → Shared → Prop}

theorem getattr_ok {b : Bool} {Q : Value → Shared → Prop} (I : Inv X pins σ H s) (e : H a = some (.ins C dx fs)) (c : Cls X.K C) (n : NoAttr X.K C f) (l : fs.lookup f = some v)
    (h : ∀ u s', Inv X pins σ H s' → RelV v u → Q u s') : wpAny (model X.prog X.w) A (getAttr (.ref a) f b) Q E s := by
  obtain ⟨mA, O, r, _, _, _⟩ := ins_get I.hok e
  obtain ⟨u, hu, ru⟩ := RelO.some_of (v := v) (o := mA f) (by rw [← l]; exact r f)
  exact get_map I.kIn O (c.get f) c.hd n hu (handed_of ru) (h u _ (I.tok _) ru)


theorem getmeth_ok {m : Str} {g : Addr} {pl : Sem Bool} {Q : Value × List Value → Shared → Prop} (I : Inv X pins σ H s) (e : H a = some (.ins C dx fs)) (c : Cls X.K C) (k : Meth X.K C m g) (l : fs.lookup m = none)
    (h : Q (.ref g, [.ref a]) s) : wpAny (model X.prog X.w) A (getMethod (.ref a) m pl) Q E s := by
  obtain ⟨mA, O, r, _, _, _⟩ := ins_get I.hok e
  have hn : mA m = none := RelO.none_of (by rw [← l]; exact r m)
  exact get_meth I.kIn O (c.get m) k.at_ k.fn hn h

theorem setattr_ok {y : V} {u : Value} {Q : Unit → Shared → Prop} (I : Inv X pins σ H s) (e : H a = some (.ins C dx fs)) (c : Cls X.K C) (n : NoAttr X.K C f) (hl : fs.length < 1000) (ry : RelV y u)
    (h : ∀ s', Inv X pins σ (upd H a (.ins C dx (putF f y fs))) s' → Q () s') : wpAny (model X.prog X.w) A (setAttr (.ref a) f u) Q E s := by
  obtain ⟨mA, O, r, wi, _, ho⟩ := ins_get I.hok e
  have hz : (fs.map (·.1)).length ≤ sizeLine := by rw [List.length_map, sizeLine_eq]; omega
  refine set_map I.kIn O c.sa c.po n.taker c.hd wi hz fun h' O' sb => h _ ?_
  have hd : ∃ o, h'.get? dx = some o := let ⟨o, _, _, e', _⟩ := O'.ns; ⟨o, e'⟩
  refine I.write (x := a) (e := dx) (by rw [e]; exact True.intro) (.inr ho) (fun b q hb z => (sb.2 b hb).trans z) hd ?_
  refine ⟨by rw [upd_ne O.ne]; exact ho, ?_, O.ne, O'.obj, _, O'.ns, fun g => ?_, fun g hg => ?_⟩
  · have := length_putF f y fs; omega
  · show RelO ((putF f y fs).lookup g) (if g = f then some u else mA g)
    rw [lookup_putF]
    by_cases q : g = f
    · rw [if_pos q, if_pos q]; exact ry
    · rw [if_neg q, if_neg q]; exact r g
  · by_cases q : g = f
    · rw [q]; exact (keys_putF f y fs).1
    · refine (keys_putF f y fs).2 g (wi g fun z => hg ?_)
      show (if g = f then some u else mA g) = none
      rw [if_neg q]; exact z

/-- a new instance, tracked, without attributes -/
theorem Inv.made (I : Inv X pins σ H s) : Inv X pins σ (upd (upd H s.heap.objs.size (.own (s.heap.objs.size + 1))) (s.heap.objs.size + 1) (.ins C s.heap.objs.size []))
    { s with heap := (s.heap.push PySem.W.emptyDict).push (PySem.W.instObj C s.heap.objs.size) } := by
  have e1 : (s.heap.push PySem.W.emptyDict).get? s.heap.objs.size = some PySem.W.emptyDict := Heap.get?_push_size s.heap rfl
  have e2 : ((s.heap.push PySem.W.emptyDict).push (PySem.W.instObj C s.heap.objs.size)).get? (s.heap.objs.size + 1) = some (PySem.W.instObj C s.heap.objs.size) := by
    have := Heap.get?_push_size (s.heap.push PySem.W.emptyDict) (o := PySem.W.instObj C s.heap.objs.size) rfl
    rwa [Heap.size_push] at this
  have e3 : (s.heap.push PySem.W.emptyDict).Ns s.heap.objs.size (fun _ => none) := ⟨PySem.W.emptyDict, #[], _, e1, rfl, (fun e he => absurd he (by simp)), fun _ => rfl⟩
  have I1 := I.laid (a := s.heap.objs.size) (o := .own (s.heap.objs.size + 1)) (h' := s.heap.push PySem.W.emptyDict) (t' := s.toks) (fun b u q => Heap.get?_push_of_some _ q) (Nat.le_refl _) ⟨_, e1⟩
  refine I1.laid (a := s.heap.objs.size + 1) (o := .ins C s.heap.objs.size []) (t' := s.toks) (fun b u q => Heap.get?_push_of_some _ q) (Nat.le_of_eq (Heap.size_push _ _)) ?_
  have ne : s.heap.objs.size ≠ s.heap.objs.size + 1 := Nat.ne_of_lt (Nat.lt_succ_self _)
  refine ⟨by rw [upd_ne ne, upd_same], Nat.zero_le _, ne, e2, fun _ => none, (Heap.Ns1.of_empty e3).at fun o q => Heap.get?_push_of_some _ q, fun _ => True.intro, fun y hy => absurd rfl hy⟩

/-- e.f where nothing but the object is asked: through attributeBase (super) and the last hold -/
theorem attr_of {prog : Program} {w : World} {env : Env} {e : Expr} {f : Str} {pos : Pos} {s : Shared} {Q : Value → Shared → Prop} (hb : attributeBase e f env (eval e env) = eval e env)
    (h : wpAny (model prog w) A (eval e env) (fun o s₁ => wpAny (model prog w) A (getAttr o f true) Q E s₁) E s) : wpAny (model prog w) A (eval (.Attribute e f pos) env) Q E s :=
  Attribute_any_ h (by rw [arm_eval_Attribute, hb])
end

/-! ### readings and rules -/
/-- e.f, an attribute of the instance -/
def tFld (K : PySem.W.Frag) (ta : TE) (f : Str) : TE := fun σ H Q => ta σ H fun x H1 => ∃ a C dx fs v, x = .ref a ∧ H1 a = some (.ins C dx fs) ∧ Cls K C ∧ NoAttr K C f ∧ fs.lookup f = some v ∧ Q v H1
/-- e.f = value -/
def sFld (K : PySem.W.Frag) (ta tv : TE) (f : Str) : TS := fun D σ H => tv σ H fun y H1 => ta σ H1 fun x H2 => ∃ a C dx fs, x = .ref a ∧ H2 a = some (.ins C dx fs) ∧ Cls K C ∧ NoAttr K C f ∧ fs.length < 1000 ∧
  D.nx σ (upd H2 a (.ins C dx (putF f y fs)))
/-- an augmented operator on two values -/
def InOp (X : Cx) (op : Operator) (rd : V → V → Hp → VK → Prop) : Prop :=
  ∀ (pins : List (Addr × Obj)) (s : Shared) (σ : St) (H : Hp) (x y : V) (u v : Value) (Q : VK), Inv X pins σ H s → RelV x u → RelV y v → rd x y H Q → wpAny (model X.prog X.w) X.A (inplaceOp op u v) (EP X pins σ Q) X.xe s
/-- e.f op= value -/
def sFldAug (K : PySem.W.Frag) (ta tv : TE) (rd : V → V → Hp → VK → Prop) (f : Str) : TS := fun D σ H => ta σ H fun x H1 => ∃ a C dx fs v, x = .ref a ∧ H1 a = some (.ins C dx fs) ∧ Cls K C ∧ NoAttr K C f ∧ fs.lookup f = some v ∧
  tv σ H1 fun y H2 => rd v y H2 fun z H3 => ∃ dx' fs', H3 a = some (.ins C dx' fs') ∧ fs'.length < 1000 ∧ D.nx σ (upd H3 a (.ins C dx' (putF f z fs')))

section
variable {X : Cx} {o e value : Expr} {f : Str} {pos pos' tpos : Pos} {ta tv : TE}
theorem pe_fld (he : PE X e ta) (hb : attributeBase e f X.env (eval e X.env) = eval e X.env) : PE X (.Attribute e f pos) (tFld X.K ta f) := by
  intro pins s σ H Q I h
  refine attr_of hb (thn (he pins s σ H _ I h) fun u s1 ⟨x, H1, I1, rx, a, C, dx, fs, v, ex, ea, c, n, l, q⟩ => ?_)
  subst ex
  obtain rfl : u = Value.ref a := rx
  exact getattr_ok I1 ea c n l fun u' s2 I2 ru => ⟨v, H1, I2, ru, q⟩
theorem ps_fld (ha : PE X o ta) (hv : PE X value tv) (hs : swapsWith value (some (.Attribute o f pos')) pos.line X.env = pure false) : PS X (.Assign [.Attribute o f pos'] value pos) (sFld X.K ta tv f) := by
  intro pins s σ H D I h
  refine plainObj_wpAny_Assign_Attribute (thn (hv pins s σ H _ I h) fun u s1 ⟨y, H1, I1, ry, q⟩ => thn (ha pins s1 σ H1 _ I1 q) fun ov s2 ⟨x, H2, I2, rx, a, C, dx, fs, ex, ea, c, n, l, q2⟩ => ?_) hs
  subst ex
  obtain rfl : ov = Value.ref a := rx
  exact setattr_ok I2 ea c n l ry fun s3 I3 => ⟨σ, _, I3, q2⟩
theorem ps_fldaug {op : Operator} {rd : V → V → Hp → VK → Prop} (ha : PE X o ta) (hv : PE X value tv) (hop : InOp X op rd) : PS X (.AugAssign (.Attribute o f tpos) op value pos) (sFldAug X.K ta tv rd f) := by
  intro pins s σ H D I h
  refine wpAny_AugAssign_AttributeAny (thn (ha pins s σ H _ I h) fun ov s1 ⟨x, H1, I1, rx, a, C, dx, fs, v, ex, ea, c, n, l, q⟩ => ?_)
  subst ex
  obtain rfl : ov = Value.ref a := rx
  refine getattr_ok I1 ea c n l fun u s2 I2 ru => thn (hv pins s2 σ H1 _ I2 q) fun w3 s3 ⟨y, H2, I3, ry, q3⟩ => thn (hop pins s3 σ H2 v y u w3 _ I3 ru ry q3) fun w4 s4 ⟨z, H3, I4, rz, dx', fs', ea', l', q4⟩ => ?_
  exact setattr_ok I4 ea' c n l' rz fun s5 I5 => ⟨σ, _, I5, q4⟩
def rAdd : V → V → Hp → VK → Prop := fun x y H Q => ∃ i j, x = .int i ∧ y = .int j ∧ Q (.int (i + j)) H
theorem in_add : InOp X .Add rAdd := by
  rintro pins s σ H x y u v Q I rx ry ⟨i, j, rfl, rfl, q⟩
  obtain ⟨t, rfl⟩ := (show ∃ t, u = Value.int i t from rx)
  obtain ⟨t', rfl⟩ := (show ∃ t', v = Value.int j t' from ry)
  exact PyProof.Rows.iadd_int ⟨.int (i + j), H, I.tok _, ⟨_, rfl⟩, q⟩

end

/-! ### isinstance -/
section
variable {X : Cx} {pins : List (Addr × Obj)} {σ : St} {H : Hp} {s : Shared} {A : Around} {E : Value → Shared → Prop} {Q : Value → Shared → Prop} {c : Value} {b : Bool}
/-- the type of a value, as the fragment's deciders take it; for an instance its class -/
inductive TyOf (K : PySem.W.Frag) (H : Hp) : V → Value → Prop where
  | non : TyOf K H .non (.type "NoneType")
  | bl (x : Bool) : TyOf K H (.bl x) (.type "bool")
  | int (i : Int) : TyOf K H (.int i) (.type "int")
  | str (x : Str) : TyOf K H (.str x) (.type "str")
  | flt (x : UInt64) : TyOf K H (.flt x) (.type "float")
  | lst {a : Addr} {xs : List V} (e : H a = some (.lst xs)) : TyOf K H (.ref a) (.type "list")
  | frz {a : Addr} {o : Obj} {xs : List V} (e : H a = some (.frz o (.lst xs))) : TyOf K H (.ref a) (.type "list")
  | tup {a : Addr} {xs : List V} (e : H a = some (.tup xs)) : TyOf K H (.ref a) (.type "tuple")
  | dK {a : Addr} {kvs : List (Key × V)} (e : H a = some (.dK kvs)) : TyOf K H (.ref a) (.type "dict")
  | dT {a : Addr} {kvs : List (List Key × V)} (e : H a = some (.dT kvs)) : TyOf K H (.ref a) (.type "dict")
  | ins {a C dx : Addr} {fs : List (Str × V)} (e : H a = some (.ins C dx fs)) (cl : Cls K C) (ha : PySem.W.findIn K (.ref C) "__class__" = some (some (.builtin "object.__class__")))
      (hn : PySem.W.specialIn K (.builtin "object.__class__") "__get__" = some (some (.builtin "getset_descriptor.__get__"))) (htk : PySem.W.takesIn K (.builtin "object.__class__") = some true)
      (hm : PySem.W.mroIn K C (.type "object") = some true) : TyOf K H (.ref a) (.ref C)
/-- isinstance(x, c) for one class c, a built-in or an own one: kitOne's answer -/
theorem isinst_ok {x : V} {u t : Value} (I : Inv X pins σ H s) (rx : RelV x u) (ty : TyOf X.K H x t) (e : PySem.W.kitOne X.K t c = some b) (h : ∀ tk, Q (.bool b) { s with toks := tk }) :
    wpAny (model X.prog X.w) A (call (.builtin "isinstance") [u, c]) Q E s := by
  cases ty with
  | non => cases (show u = Value.none from rx); exact PySem.W.kia_one PySem.W.kitx_none I.kIn True.intro e (fun z => nomatch z) h
  | bl y => cases (show u = Value.bool y from rx); exact PySem.W.kia_one PySem.W.kitx_bool I.kIn True.intro e (fun z => nomatch z) h
  | int i => obtain ⟨t, q⟩ := (show ∃ t, u = Value.int i t from rx); cases q; exact PySem.W.kia_one PySem.W.kitx_int I.kIn True.intro e (fun z => nomatch z) h
  | str y => obtain ⟨t, q⟩ := (show ∃ t, u = Value.str y t from rx); cases q; exact PySem.W.kia_one PySem.W.kitx_str I.kIn True.intro e (fun z => nomatch z) h
  | flt y => obtain ⟨t, q⟩ := (show ∃ t, u = Value.float y t from rx); cases q; exact PySem.W.kia_one PySem.W.kitx_float I.kIn True.intro e (fun z => nomatch z) h
  | @lst a xs ea =>
    cases (show u = Value.ref a from rx)
    obtain ⟨_, _, n, _, h1⟩ := (show ObjOk X.prog X.w H s.heap a (.lst xs) from I.hok a _ ea)
    exact PySem.W.kia_one PySem.W.kitx_list I.kIn ⟨_, h1, rfl⟩ e (fun z => nomatch z) h
  | @frz a ob xs ea =>
    cases (show u = Value.ref a from rx)
    obtain ⟨_, _, _, n, _, h1⟩ := (show ObjOk X.prog X.w H s.heap a (.frz ob (.lst xs)) from I.hok a _ ea)
    exact PySem.W.kia_one PySem.W.kitx_list I.kIn ⟨_, h1, rfl⟩ e (fun z => nomatch z) h
  | @tup a xs ea =>
    cases (show u = Value.ref a from rx)
    obtain ⟨_, _, _, p⟩ := (show ObjOk X.prog X.w H s.heap a (.tup xs) from I.hok a _ ea)
    obtain ⟨o, h1, h2, _⟩ := p
    exact PySem.W.kia_one PySem.W.kitx_tuple I.kIn ⟨o, h1, h2⟩ e (fun z => nomatch z) h
  | @dK a kvs ea =>
    cases (show u = Value.ref a from rx)
    obtain ⟨_, _, vs, _, p⟩ := (show ObjOk X.prog X.w H s.heap a (.dK kvs) from I.hok a _ ea)
    obtain ⟨o, es, ep, h1, h2, _⟩ := p
    exact PySem.W.kia_one PySem.W.kitx_dict I.kIn ⟨o, h1, h2.1⟩ e (fun z => nomatch z) h
  | @dT a kvs ea =>
    cases (show u = Value.ref a from rx)
    obtain ⟨_, _, xs, _, o, es, ep, h1, h2, _⟩ := (show ObjOk X.prog X.w H s.heap a (.dT kvs) from I.hok a _ ea)
    exact PySem.W.kia_one PySem.W.kitx_dict I.kIn ⟨o, h1, h2.1⟩ e (fun z => nomatch z) h
  | @ins a C dx fs ea cl ha hn htk hm =>
    cases (show u = Value.ref a from rx)
    obtain ⟨mA, O, _⟩ := ins_get I.hok ea
    obtain ⟨od, J, _⟩ := O.look
    exact PySem.W.kia_one (PySem.W.kitx_own (cl.get _) cl.hd ha hn htk hm) I.kIn J e (fun z => nomatch z) h
end
end L2

namespace L2
open PySem PySem.Spec PyProof.Rows

/-! ### room -/
structure Room (k : Nat) (A : Around) : Prop where
  hd : A.handled = none
  dp : A.depth + 3 * k + 5 < recursionLimit
  un : A.units + 16 * k + 200 < cLine
theorem Room.mono {j k : Nat} {A : Around} (r : Room k A) (h : j ≤ k) : Room j A := ⟨r.hd, by have := r.dp; omega, by have := r.un; omega⟩
theorem Room.deeper {k : Nat} {A : Around} (r : Room (k + 1) A) (env : Env) : Room k (A.deeper env) :=
  ⟨r.hd, by have := r.dp; show A.depth + 1 + 3 * k + 5 < _; omega, by have := r.un; show A.units + 3 + 16 * k + 200 < _; omega⟩
theorem Room.in1 {k : Nat} {A : Around} (r : Room (k + 1) A) : Room k A.in1 :=
  ⟨r.hd, by have := r.dp; show A.depth + 3 * k + 5 < _; omega, by have := r.un; show A.units + 1 + 16 * k + 200 < _; omega⟩
theorem make_depth {A : Around} {C : Addr} {us : List Value} {kw : List (Str × Value)} : (A.under (.builtin "type.__call__" ⟨.ref C :: us, kw⟩)).depth = A.depth + 1 := by
  first | rfl | simp [Around.under, Code.weight, Code.isCreation, Code.isGuard, Code.isCaller, Code.frames, Code.isFrame, guardIds]
theorem make_units {A : Around} {C : Addr} {us : List Value} {kw : List (Str × Value)} : (A.under (.builtin "type.__call__" ⟨.ref C :: us, kw⟩)).units = A.units + 1 := by
  first | rfl | simp [Around.under, Code.cUnits, Code.frames, Code.isFrame]
theorem Room.make {k : Nat} {A : Around} (r : Room (k + 1) A) (C : Addr) (us : List Value) (kw : List (Str × Value)) : Room k (A.under (.builtin "type.__call__" ⟨.ref C :: us, kw⟩)) :=
  ⟨r.hd, by have := r.dp; rw [make_depth]; omega, by have := r.un; rw [make_units]; omega⟩
theorem Room.depth {k : Nat} {A : Around} (r : Room k A) : A.depth < recursionLimit := by have := r.dp; omega
theorem Room.units {k : Nat} {A : Around} (r : Room k A) : A.units + 64 < cLine := by have := r.un; omega

/-! ### argument lists and displays -/
def tNil : TA := fun _ H Q => Q [] H
def tCons (ta : TE) (tr : TA) : TA := fun σ H Q => ta σ H fun x H1 => tr σ H1 fun xs H2 => Q (x :: xs) H2
section
variable {X : Cx} {e : Expr} {es : List Expr} {te : TE} {t : TA} {pos : Pos}
theorem pa_nil : PA X [] tNil := fun _ _ _ _ H Q I h => Calls.spliced_nil ⟨[], H, I, .nil, h⟩
theorem pa_cons (ha : PE X e te) (hr : PA X es t) (hs : starEach (e :: es) X.env = (false, eval e X.env) :: starEach es X.env := by rfl) : PA X (e :: es) (tCons te t) := by
  intro pos pins s σ H Q I h
  rw [hs]
  show wpAny _ _ (spliced ((false, eval e X.env) :: backTo pos (starEach es X.env))) _ _ s
  refine Calls.spliced_cons (thn (ha pins s σ H _ I h) fun u s1 ⟨x, H1, I1, r1, q1⟩ => ?_)
  exact thn (hr pos pins s1 σ H1 _ I1 q1) fun us s2 ⟨xs, H2, I2, r2, q2⟩ => ⟨x :: xs, H2, I2, .cons r1 r2, q2⟩

/-- a tuple, a list of written items -/
def tTup (t : TA) : TE := fun σ H Q => t σ H fun xs H1 => xs.length ≤ sizeLine ∧ ∀ p, H1 p = none → Q (.ref p) (upd H1 p (.tup xs))
def tLst (t : TA) : TE := fun σ H Q => t σ H fun xs H1 => xs.length ≤ sizeLine ∧ ∀ p, H1 p = none → Q (.ref p) (upd H1 p (.lst xs))
theorem pe_tup {x1} (h : PA X es t) : PE X (.Tuple es x1 pos) (tTup t) := by
  intro pins s σ H Q I hq
  refine wpAny_Tuple_spliced (thn (h pos pins s σ H _ I hq) fun us s1 ⟨xs, H1, I1, r, z, q⟩ => ⟨by rw [← r.length]; exact z, ?_⟩)
  have hf : H1 s1.heap.objs.size = none := I1.hok.fresh (Nat.le_refl _)
  refine ⟨.ref s1.heap.objs.size, upd H1 s1.heap.objs.size (.tup xs), I1.laid (t' := s1.toks) (fun b u e => Heap.get?_push_of_some _ e) (Nat.le_refl _) ?_, rfl, q _ hf⟩
  exact ⟨z, us, r, ⟨_, Heap.get?_push_size _ rfl, rfl, _, rfl⟩⟩
theorem pe_lst (h : PA X es t) : PE X (.List es pos) (tLst t) := by
  intro pins s σ H Q I hq
  refine wpAny_List_spliced (thn (h pos pins s σ H _ I hq) fun us s1 ⟨xs, H1, I1, r, z, q⟩ => ⟨by rw [← r.length]; exact z, ?_⟩)
  have hf : H1 s1.heap.objs.size = none := I1.hok.fresh (Nat.le_refl _)
  refine ⟨.ref s1.heap.objs.size, upd H1 s1.heap.objs.size (.lst xs), I1.laid (t' := s1.toks) (fun b u e => Heap.get?_push_of_some _ e) (Nat.le_refl _) ?_, rfl, q _ hf⟩
  exact ⟨z, us, 0, r, Heap.get?_push_size _ rfl⟩
end

/-! ### what a def promises -/
/-- a def's promise: the bound arguments in the parameters' order, the heap, the wanted end, the wanted exception -/
abbrev Sp := List V → Hp → VK → XK → Prop
/-- how an exception lies behind a call (file 08 gives it): the callers' frames, abstract heap and state ahead of the call, the wish, the exception, the state -/
abbrev CXT := List Env → Hp → Shared → XK → Value → Shared → Prop

/-- the state at a call -/
structure Env0 (P : Program) (w : World) (K : PySem.W.Frag) (mg : Str → Option Value) (base : Heap) (A : Around) (outer : List Env) (s : Shared) (H : Hp) : Prop where
  frames : A.frames = some outer
  mod : Mod K mg base
  bs : ∀ b o, base.get? b = some o → s.heap.get? b = some o ∧ H b = none
  bsz : base.objs.size ≤ s.heap.objs.size
  funs : s.heap.FunFrames base outer
  frf : ∀ b ∈ frs outer, H b = none
  hok : HOk P w H s.heap
  bare : AllBare s.gens
/-- a call's end -/
def CE (outer : List Env) (P : Program) (w : World) (H : Hp) (s : Shared) (Q : VK) (u : Value) (s' : Shared) : Prop :=
  ∃ v H', s'.os = s.os ∧ AllBare s'.gens ∧ Un (frs outer) [] H H' s.heap s'.heap ∧ HOk P w H' s'.heap ∧ RelV v u ∧ Q v H'
def CR (CX : CXT) (outer : List Env) (P : Program) (w : World) (H : Hp) (s : Shared) (Q : VK) (E : XK) (r : Result) (s' : Shared) : Prop :=
  match r with
  | .ok (.ret u) => CE outer P w H s Q u s'
  | .ok _ => False
  | .error e => CX outer H s E e s'
structure FnOk (P : Program) (w : World) (K : PySem.W.Frag) (mg : Str → Option Value) (base : Heap) (CX : CXT) (k : Nat) (f : Addr) (fd : FuncData) (ps : List Str) (sp : Sp) : Prop where
  len : ∀ vs H Q E, sp vs H Q E → vs.length = ps.length
  run : ∀ (A : Around) (outer : List Env) (s : Shared) (H : Hp) (args : Args) (us : List Value) (vs : List V) (Q : VK) (E : XK), Room k A → Env0 P w K mg base A outer s H → BindsTo s fd args (ps.zip us) → Vals vs us → sp vs H Q E →
    codeAny (model P w) A (.call (.ref f) args) (CR CX outer P w H s Q E) s
theorem FnOk.mono {P : Program} {w : World} {K : PySem.W.Frag} {mg : Str → Option Value} {base : Heap} {CX : CXT} {j k : Nat} {f : Addr} {fd : FuncData} {ps : List Str} {sp : Sp} (F : FnOk P w K mg base CX j f fd ps sp) (h : j ≤ k) :
    FnOk P w K mg base CX k f fd ps sp := ⟨F.len, fun A outer s H args us vs Q E hr => F.run A outer s H args us vs Q E (hr.mono h)⟩
/-- a weaker promise -/
theorem FnOk.imp {P : Program} {w : World} {K : PySem.W.Frag} {mg : Str → Option Value} {base : Heap} {CX : CXT} {k : Nat} {f : Addr} {fd : FuncData} {ps : List Str} {sp sp' : Sp} (F : FnOk P w K mg base CX k f fd ps sp)
    (h : ∀ vs H Q E, sp' vs H Q E → sp vs H Q E) : FnOk P w K mg base CX k f fd ps sp' :=
  ⟨fun vs H Q E q => F.len vs H Q E (h _ _ _ _ q), fun A outer s H args us vs Q E hr he hb hv hs => F.run A outer s H args us vs Q E hr he hb hv (h _ _ _ _ hs)⟩

theorem Env0.make {P : Program} {w : World} {K : PySem.W.Frag} {mg : Str → Option Value} {base : Heap} {A : Around} {outer : List Env} {s : Shared} {H : Hp} (e : Env0 P w K mg base A outer s H) (C : Addr) (us : List Value) (kw : List (Str × Value)) :
    Env0 P w K mg base (A.under (.builtin "type.__call__" ⟨.ref C :: us, kw⟩)) outer s H := ⟨by first | exact e.frames | (simpa [Around.under, Code.envs, Code.isFrame, pushEnvs] using e.frames), e.mod, e.bs, e.bsz, e.funs, e.frf, e.hok, e.bare⟩

section
variable {X : Cx} {pins : List (Addr × Obj)} {σ : St} {H : Hp} {s s' : Shared}
/-- from a body: what a callee wants -/
theorem Inv.env0 (I : Inv X pins σ H s) : Env0 X.prog X.w X.K X.mg X.base X.A X.stack s H :=
  ⟨I.ok.frames, I.ok.mod, I.bs, Nat.le_trans I.ok.bsz I.sz, I.stack, I.stkFree, I.hok, I.bare⟩
/-- behind a call -/
theorem Inv.after {Q : VK} {u : Value} (I : Inv X pins σ H s) (h : CE X.stack X.prog X.w H s Q u s') : EP X pins σ Q u s' := by
  obtain ⟨v, H', os, bare, un, hok, r, q⟩ := h
  obtain ⟨hh, g, d, t, os'⟩ := s'
  obtain rfl : os' = s.os := os
  exact ⟨v, H', I.call (h' := hh) (g' := g) (d' := d) (t' := t) (ch := []) un hok bare (fun b z => absurd z (by simp)), r, q⟩
end

/-! ### calls -/
/-- f(..): the written arguments, then the defaults dvs; E: what is wanted of an exception -/
def tCall (sp : Sp) (dvs : List V) (E : XK) (t : TA) : TE := fun σ H Q => t σ H fun vs H1 => sp (vs ++ dvs) H1 Q E
/-- o.m(..) of an instance of the class at C -/
def tMeth (C : Addr) (m : Str) (sp : Sp) (dvs : List V) (E : XK) (ta : TE) (t : TA) : TE := fun σ H Q => ta σ H fun x H1 => ∃ a dx fs, x = .ref a ∧ H1 a = some (.ins C dx fs) ∧ fs.lookup m = none ∧
  t σ H1 fun vs H2 => sp (x :: (vs ++ dvs)) H2 Q E
/-- C(..): a new instance and its dict, then __init__ -/
def tMake (C : Addr) (sp : Sp) (dvs : List V) (E : XK) (t : TA) : TE := fun σ H Q => t σ H fun vs H1 => ∀ x dx, H1 x = none → H1 dx = none → dx ≠ x →
  sp (.ref x :: (vs ++ dvs)) (upd (upd H1 dx (.own x)) x (.ins C dx [])) (fun v H2 => v = .non ∧ Q (.ref x) H2) E

/-- how the parameters are bound: us the positional arguments, kw the keywords' values by name, ds the defaults that fill up -/
def Binds (K : PySem.W.Frag) (fd : FuncData) (ps : List Str) (ds : List Value) : Prop :=
  ∀ (s : Shared) (us : List Value), K.In s.heap → (us ++ ds).length = ps.length → BindsTo s fd ⟨us, []⟩ (ps.zip (us ++ ds))
/-- every parameter is given -/
theorem Binds.all {K : PySem.W.Frag} {fd : FuncData} {ps : List Str} (h : ∀ us : List Value, us.length = ps.length → bindArgs fd ⟨us, []⟩ = pure (ps.zip us)) : Binds K fd ps [] := fun s us _ hl => by
  rw [List.append_nil] at hl ⊢
  exact .of_eq (h us hl)

/-- an exception of a callee reaches what this body wants of exceptions -/
def Passes (CX : CXT) (X : Cx) (E : XK) : Prop := ∀ (pins : List (Addr × Obj)) (σ : St) (H : Hp) (s : Shared) (e : Value) (s' : Shared), Inv X pins σ H s → CX X.stack H s E e s' → X.xe e s'

section
variable {X : Cx} {CX : CXT} {k : Nat} {f C : Addr} {fd : FuncData} {ps : List Str} {sp : Sp} {dvs : List V} {ds : List Value} {E : XK} {x m : Str} {p pos apos : Pos} {e o : Expr} {es : List Expr} {ta : TE} {t : TA}

/-- the callee runs -/
theorem run_fn {pins : List (Addr × Obj)} {σ : St} {H : Hp} {s : Shared} {Q : VK} {us : List Value} {vs : List V} (F : FnOk X.prog X.w X.K X.mg X.base CX k f fd ps sp) (hr : Room k X.A) (hb : Binds X.K fd ps ds) (hd : Vals dvs ds) (hx : Passes CX X E)
    (I : Inv X pins σ H s) (r : Vals vs us) (h : sp (vs ++ dvs) H Q E) : wpAny (model X.prog X.w) X.A (call (.ref f) us) (EP X pins σ Q) X.xe s := by
  have r2 : Vals (vs ++ dvs) (us ++ ds) := r.append hd
  have hl : (us ++ ds).length = ps.length := by rw [← r2.length]; exact F.len _ _ _ _ h
  refine wpAny_call (codeAny_mono (F.run X.A X.stack s H ⟨us, []⟩ (us ++ ds) (vs ++ dvs) Q E hr I.env0 (hb s us I.kIn hl) r2 h) fun r s' hq => ?_)
  cases r with
  | error e => exact hx pins σ H s e s' I hq
  | ok fl =>
    cases fl with
    | ret u => exact I.after hq
    | next => exact False.elim hq
    | brk => exact False.elim hq
    | cont => exact False.elim hq

theorem pe_call (F : FnOk X.prog X.w X.K X.mg X.base CX k f fd ps sp) (hr : Room k X.A) (hg : Gl X x) (hm : X.mg x = some (.ref f)) (hk : PySem.W.keepIn X.K (.ref f) = true) (hb : Binds X.K fd ps ds) (hd : Vals dvs ds) (hx : Passes CX X E)
    (ha : PA X (e :: es) t) (hdb : (x == ("__debug__" : Str)) = false := by decide) (he : starEach (e :: es) X.env = (false, eval e X.env) :: starEach es X.env := by rfl) (hpl : (backTo pos (starEach es X.env)).any (·.1) = false := by rfl) :
    PE X (.Call (.Name x p) (e :: es) [] pos) (tCall sp dvs E t) := by
  intro pins s σ H Q I h
  refine wpAny_Call_Name_kw (ld_glob I hg hm ?_ hdb)
  refine PySem.W.callWith_K (h₀ := X.base) I.ok.mod.kin hk (thn (ha pos pins s σ H _ I h) fun us s1 ⟨vs, H1, I1, r, q⟩ => ⟨I1.kIn, ?_⟩) he hpl
  exact run_fn F hr hb hd hx I1 r q

/-- o.m(e, ..) -/
theorem pe_meth {pl : Sem Bool} (he : PE X o ta) (c : Cls X.K C) (hm : Meth X.K C m f) (F : FnOk X.prog X.w X.K X.mg X.base CX k f fd ps sp) (hr : Room k X.A) (hb : Binds X.K fd ps ds) (hd : Vals dvs ds) (hx : Passes CX X E) (ha : PA X (e :: es) t)
    (hst : starEach (e :: es) X.env = (false, eval e X.env) :: starEach es X.env := by rfl) (hpl : (backTo pos (starEach es X.env)).any (·.1) = false := by rfl)
    (ht : eval (.Call (.Attribute o m apos) (e :: es) [] pos) X.env = (do
      let ov ← eval o X.env
      standAt apos.atName
      let (f, first) ← holding [ov] (getMethod ov m pl)
      callWith pos f first (backTo pos (starEach (e :: es) X.env)) (backToKw pos (keywordEach [] X.env))) := by rfl) :
    PE X (.Call (.Attribute o m apos) (e :: es) [] pos) (tMeth C m sp dvs E ta t) := by
  intro pins s σ H Q I h
  refine PySem.W.methodCall_KW (pl := pl) (thn (he pins s σ H _ I h) fun u s1 ⟨x, H1, I1, rx, a, dx, fs, ex, ea, l, q⟩ => ?_) ht
  subst ex
  obtain rfl : u = Value.ref a := rx
  refine getmeth_ok I1 ea c hm l ?_
  refine PySem.W.callWith_K (first := [.ref a]) (h₀ := X.base) I.ok.mod.kin hm.kp (thn (ha pos pins s1 σ H1 _ I1 q) fun us s2 ⟨vs, H2, I2, r, q2⟩ => ⟨I2.kIn, ?_⟩) hst hpl
  exact run_fn (us := .ref a :: us) (vs := .ref a :: vs) F hr hb hd hx I2 (.cons rfl r) q2
/-- o.m() -/
theorem pe_meth0 {pl : Sem Bool} (he : PE X o ta) (c : Cls X.K C) (hm : Meth X.K C m f) (F : FnOk X.prog X.w X.K X.mg X.base CX k f fd ps sp) (hr : Room k X.A) (hb : Binds X.K fd ps ds) (hd : Vals dvs ds) (hx : Passes CX X E)
    (ht : eval (.Call (.Attribute o m apos) [] [] pos) X.env = (do
      let ov ← eval o X.env
      standAt apos.atName
      let (f, first) ← holding [ov] (getMethod ov m pl)
      callWith pos f first (backTo pos (starEach [] X.env)) (backToKw pos (keywordEach [] X.env))) := by rfl) :
    PE X (.Call (.Attribute o m apos) [] [] pos) (tMeth C m sp dvs E ta tNil) := by
  intro pins s σ H Q I h
  refine PySem.W.methodCall_KW (pl := pl) (thn (he pins s σ H _ I h) fun u s1 ⟨x, H1, I1, rx, a, dx, fs, ex, ea, l, q⟩ => ?_) ht
  subst ex
  obtain rfl : u = Value.ref a := rx
  refine getmeth_ok I1 ea c hm l ?_
  exact PySem.W.callWith_K0 (first := [.ref a]) I1.kIn hm.kp (run_fn (us := [.ref a]) (vs := [.ref a]) F hr hb hd hx I1 (.cons rfl .nil) q)

/-- what a class must have to be made -/
structure Mk (K : PySem.W.Frag) (C f : Addr) : Prop where
  makes : PySem.W.makesIn K C = true
  init : PySem.W.findIn K (.ref C) "__init__" = some (some (.ref f))
  fn : PySem.W.isFn K (.ref f) = true
  kp : PySem.W.keepIn K (.ref C) = true

theorem run_make {pins : List (Addr × Obj)} {σ : St} {H : Hp} {s : Shared} {Q : VK} {us : List Value} {vs : List V} (M : Mk X.K C f) (F : FnOk X.prog X.w X.K X.mg X.base CX k f fd ps sp) (hr : Room (k + 1) X.A) (hb : Binds X.K fd ps ds) (hd : Vals dvs ds)
    (hx : Passes CX X E) (I : Inv X pins σ H s) (r : Vals vs us)
    (h : ∀ x dx, H x = none → H dx = none → dx ≠ x → sp (.ref x :: (vs ++ dvs)) (upd (upd H dx (.own x)) x (.ins C dx [])) (fun v H2 => v = .non ∧ Q (.ref x) H2) E) :
    wpAny (model X.prog X.w) X.A (call (.ref C) us) (EP X pins σ Q) X.xe s := by
  have hq := h (s.heap.objs.size + 1) s.heap.objs.size (I.hok.fresh (Nat.le_succ _)) (I.hok.fresh (Nat.le_refl _)) (Nat.ne_of_lt (Nat.lt_succ_self _))
  have I2 := Inv.made (C := C) I
  have r2 : Vals (V.ref (s.heap.objs.size + 1) :: (vs ++ dvs)) (Value.ref (s.heap.objs.size + 1) :: (us ++ ds)) := .cons rfl (r.append hd)
  have hl : (Value.ref (s.heap.objs.size + 1) :: us ++ ds).length = ps.length := by
    have e := r2.length
    rw [F.len _ _ _ _ hq] at e
    exact e.symm
  refine wpAny_call (make_map (f := f) I.kIn M.makes M.init (beq_iff_eq.mp M.fn) (codeAny_mono (F.run _ X.stack _ _ ⟨Value.ref (s.heap.objs.size + 1) :: us, []⟩ (Value.ref (s.heap.objs.size + 1) :: (us ++ ds)) _ _ E (hr.make C us [])
    (I2.env0.make C us []) (hb _ (Value.ref (s.heap.objs.size + 1) :: us) I2.kIn hl) r2 hq) fun r s' hq' => ?_))
  cases r with
  | error e => exact hx pins σ _ _ e s' I2 hq'
  | ok fl =>
    cases fl with
    | ret u =>
      obtain ⟨v, H', I3, rv, ev, q3⟩ := I2.after hq'
      subst ev
      exact ⟨rv, ⟨V.ref (s.heap.objs.size + 1), H', I3, rfl, q3⟩⟩
    | next => exact False.elim hq'
    | brk => exact False.elim hq'
    | cont => exact False.elim hq'
theorem pe_make (M : Mk X.K C f) (F : FnOk X.prog X.w X.K X.mg X.base CX k f fd ps sp) (hr : Room (k + 1) X.A) (hg : Gl X x) (hm : X.mg x = some (.ref C)) (hb : Binds X.K fd ps ds) (hd : Vals dvs ds) (hx : Passes CX X E)
    (ha : PA X (e :: es) t) (hdb : (x == ("__debug__" : Str)) = false := by decide) (he : starEach (e :: es) X.env = (false, eval e X.env) :: starEach es X.env := by rfl) (hpl : (backTo pos (starEach es X.env)).any (·.1) = false := by rfl) :
    PE X (.Call (.Name x p) (e :: es) [] pos) (tMake C sp dvs E t) := by
  intro pins s σ H Q I h
  refine wpAny_Call_Name_kw (ld_glob I hg hm ?_ hdb)
  refine PySem.W.callWith_K (h₀ := X.base) I.ok.mod.kin M.kp (thn (ha pos pins s σ H _ I h) fun us s1 ⟨vs, H1, I1, r, q⟩ => ⟨I1.kIn, ?_⟩) he hpl
  exact run_make M F hr hb hd hx I1 r q
end

/-! ### keywords -/
/-- the values of the keywords, from the left -/
def PK (X : Cx) (kws : List Keyword) (t : TA) : Prop :=
  ∀ (pos : Pos) (pins : List (Addr × Obj)) (s : Shared) (σ : St) (H : Hp) (Q : List V → Hp → Prop), Inv X pins σ H s → t σ H Q → wpAny (model X.prog X.w) X.A (evalAll ((backToKw pos (keywordEach kws X.env)).map (·.2))) (AP X pins σ Q) X.xe s
section
variable {X : Cx} {CX : CXT} {k : Nat} {f C : Addr} {fd : FuncData} {ps ks : List Str} {sp : Sp} {E : XK} {x m : Str} {p pos apos kpos : Pos} {e o : Expr} {es : List Expr} {kws : List Keyword} {te ta : TE} {t tk : TA} {nm : Option Str}
theorem pk_nil : PK X [] tNil := fun _ _ _ _ H Q I h => wpAny_evalAll_nil ⟨[], H, I, .nil, h⟩
theorem pk_cons (ha : PE X e te) (hr : PK X kws t) : PK X (⟨nm, e, kpos⟩ :: kws) (tCons te t) := by
  intro pos pins s σ H Q I h
  show wpAny _ _ (evalAll ((do let v ← eval e X.env; standAt pos; pure v) :: (backToKw pos (keywordEach kws X.env)).map (·.2))) _ _ s
  refine wpAny_evalAll_cons (wpAny_bind (thn (ha pins s σ H _ I h) fun u s1 ⟨x, H1, I1, r1, q1⟩ => wpAny_bind (wpAny_standAt (wpAny_pure ?_))))
  exact thn (hr pos pins s1 σ H1 _ I1 q1) fun us s2 ⟨xs, H2, I2, r2, q2⟩ => ⟨x :: xs, H2, I2, .cons r1 r2, q2⟩

variable {g : List Value → List Value → List Value} {gV : List V → List V → List V}
end

/-! ### a def's body keeps its promise -/
/-- names: the parameters first -/
structure FnScope (N P : List Str) (sc : Scope) : Prop where
  kind : sc.kind = .function
  co : sc.isCoroutine = false
  gen : sc.isGenerator = false
  nd : N.Nodup
  pre : N.take P.length = P
  par : ∀ x ∈ P, sc.names.lookup x = some .local ∨ sc.names.lookup x = some .cell
  nofree : ∀ y ∈ sc.names, y.2 ≠ .free

theorem bindL_out {kindOf : Str → Option NameKind} {x : Str} : ∀ {binds : List (Str × Value)} {m : Str → Option Value}, (∀ v, (x, v) ∉ binds) → bindL kindOf binds m x = m x
  | [], _, _ => rfl
  | (n, v) :: r, m, h => by
    unfold bindL
    rw [bindL_out fun w hw => h w (List.mem_cons_of_mem _ hw)]
    split
    · have : x ≠ n := by rintro rfl; exact h v List.mem_cons_self
      simp [this]
    · rfl
theorem bindC_out {kindOf : Str → Option NameKind} {x : Str} : ∀ {binds : List (Str × Value)} {m : Str → Option Value}, (∀ v, (x, v) ∉ binds) → bindC kindOf binds m x = m x
  | [], _, _ => rfl
  | (n, v) :: r, m, h => by
    unfold bindC
    rw [bindC_out fun w hw => h w (List.mem_cons_of_mem _ hw)]
    split
    · rfl
    · have : x ≠ n := by rintro rfl; exact h v List.mem_cons_self
      simp [this]
theorem bindL_get {kindOf : Str → Option NameKind} {x : Str} {v : Value} : ∀ {P : List Str} {vs : List Value} {i : Nat} {m : Str → Option Value}, P.Nodup → P[i]? = some x → vs[i]? = some v → kindOf x = some .local →
    bindL kindOf (P.zip vs) m x = some v
  | [], _, _, _, _, h, _, _ => by simp at h
  | _ :: _, [], _, _, _, _, h, _ => by simp at h
  | p :: P, w :: vs, 0, m, nd, h1, h2, hk => by
    simp at h1 h2; subst h1; subst h2
    show bindL kindOf ((p, w) :: P.zip vs) m p = _
    unfold bindL
    rw [bindL_out fun v hv => (List.nodup_cons.mp nd).1 (List.of_mem_zip hv).1, if_pos hk]
    simp
  | p :: P, w :: vs, i + 1, m, nd, h1, h2, hk => by
    show bindL kindOf ((p, w) :: P.zip vs) m x = _
    unfold bindL
    exact bindL_get (i := i) (List.nodup_cons.mp nd).2 (by simpa using h1) (by simpa using h2) hk
theorem bindC_get {kindOf : Str → Option NameKind} {x : Str} {v : Value} : ∀ {P : List Str} {vs : List Value} {i : Nat} {m : Str → Option Value}, P.Nodup → P[i]? = some x → vs[i]? = some v → kindOf x ≠ some .local →
    bindC kindOf (P.zip vs) m x = some v
  | [], _, _, _, _, h, _, _ => by simp at h
  | _ :: _, [], _, _, _, _, h, _ => by simp at h
  | p :: P, w :: vs, 0, m, nd, h1, h2, hk => by
    simp at h1 h2; subst h1; subst h2
    show bindC kindOf ((p, w) :: P.zip vs) m p = _
    unfold bindC
    rw [bindC_out fun v hv => (List.nodup_cons.mp nd).1 (List.of_mem_zip hv).1, if_neg hk]
    simp
  | p :: P, w :: vs, i + 1, m, nd, h1, h2, hk => by
    show bindC kindOf ((p, w) :: P.zip vs) m x = _
    unfold bindC
    exact bindC_get (i := i) (List.nodup_cons.mp nd).2 (by simpa using h1) (by simpa using h2) hk

/-- the names' values at the entry -/
def start (N : List Str) (vs : List V) : St := vs.map some ++ List.replicate (N.length - vs.length) none

/-- the context of a def's body, at its entry; an exception leaves the frame, then lies as CX says -/
def cxOf (CX : CXT) (P : Program) (w : World) (K : PySem.W.Frag) (mg : Str → Option Value) (base : Heap) (N : List Str) (qual : Str) (scope : Scope) (f : Addr) (cd : Value) (A : Around) (outer : List Env) (s : Shared) (H : Hp) (E : XK) : Cx where
  prog := P
  w := w
  K := K
  mg := mg
  base := base
  A := A.deeper (envOfC qual scope s.heap.objs.size f cd)
  N := N
  s₀ := s
  H₀ := H
  env := envOfC qual scope s.heap.objs.size f cd
  outer := outer
  stack := envOfC qual scope s.heap.objs.size f cd :: outer
  ex := []
  calm := true
  fn := fun _ => true
  pn := []
  xe := fun e s' => wpAny (model P w) (A.deeper (envOfC qual scope s.heap.objs.size f cd)) (leaving (envOfC qual scope s.heap.objs.size f cd) e) (fun _ s'' => CX outer H s E e s'') (fun e' s'' => CX outer H s E e' s'') s'

theorem cell_has {sc : Scope} {n : Nat} {x : Str} (h : sc.names.lookup x = some .cell) : ∃ c, (cellsFrom n sc.names []).lookup x = some c := by
  have q := PySem.W.cellsFrom_some sc.names n [] (.inl h)
  exact Option.isSome_iff_exists.mp q

theorem inv_start {CX : CXT} {P : Program} {w : World} {K : PySem.W.Frag} {mg : Str → Option Value} {base : Heap} {N ps : List Str} {qual : Str} {scope : Scope} {f : Addr} {cd : Value} {A : Around} {outer : List Env} {s s1 : Shared} {H : Hp} {E : XK} {us : List Value} {vs : List V}
    (S : FnScope N ps scope) (hd : A.handled = none) (e0 : Env0 P w K mg base A outer s H) (hl : vs.length = ps.length) (r : Vals vs us)
    (x : InCallC s s.heap.objs.size (bindL (envOfC qual scope s.heap.objs.size f cd).kindOf (ps.zip us) fun _ => none) (cellsFrom (s.heap.objs.size + 1) scope.names []) (bindC (envOfC qual scope s.heap.objs.size f cd).kindOf (ps.zip us) fun _ => none) s1) :
    Inv (cxOf CX P w K mg base N qual scope f cd A outer s H E) [] (start N vs) H s1 := by
  have hpl : ps.length ≤ N.length := by have := congrArg List.length S.pre; rw [List.length_take] at this; omega
  obtain ⟨h1, tk, rfl, hk⟩ := x.done
  have noA : ∀ b : Addr, b ∉ (cxOf CX P w K mg base N qual scope f cd A outer s H E).ex := fun b z => absurd (show b ∈ ([] : List Addr) from z) (by simp)
  refine ⟨⟨e0.mod, S.kind, rfl, rfl, Nat.le_refl _, fun y z c h1 h2 => ?_, fun y hy => ?_, fun y c _ h => ?_, fun _ => hd, Around.frames_deeper e0.frames, .inr ⟨rfl, rfl⟩, fun b z => absurd z (noA b), e0.bs, e0.bsz, fun b _ _ => noA b, fun b z => absurd z (noA b), e0.funs, e0.frf⟩,
    rfl, e0.bare, Un.kept hk, ⟨_, x.toInCall.ns, fun i y v h1 h2 h3 => ?_⟩, fun y c h => ⟨_, x.cell y c h⟩, e0.hok.fresh (Nat.le_refl _), fun y c h => ?_, fun p hp => absurd (show p ∈ ([] : List (Addr × Obj)) from hp) (by simp), e0.hok.kept hk, ?_⟩
  · exact name_of_addr x.apart (PySem.mem_of_lookup h1) (PySem.mem_of_lookup h2)
  · have hy : scope.names.lookup y = some .cell ∨ scope.names.lookup y = some .free := hy
    rcases hy with hy | hy
    · exact cell_has hy
    · exact absurd rfl (S.nofree _ (PySem.mem_of_lookup hy))
  · exact Nat.le_of_lt (x.above y c (PySem.mem_of_lookup h))
  · have hi : i < vs.length := by
      unfold start at h2
      by_cases hi : i < vs.length
      · exact hi
      · rw [List.getElem?_append_right (by simpa using hi)] at h2
        rw [List.getElem?_replicate] at h2
        split at h2 <;> cases h2
    have ha : vs[i]? = some v := by
      unfold start at h2
      rw [List.getElem?_append_left (by simpa using hi), List.getElem?_map] at h2
      cases e : vs[i]? with
      | none => rw [e] at h2; cases h2
      | some a => rw [e] at h2; cases h2; rfl
    obtain ⟨u, hu, rv⟩ := r.get ha
    have hp : ps[i]? = some y := by
      rw [← S.pre, List.getElem?_take_of_lt (by omega)]; exact h1
    have ndP : ps.Nodup := by rw [← S.pre]; exact S.nd.sublist (List.take_sublist _ _)
    refine ⟨u, rv, ?_⟩
    rcases S.par y (List.mem_of_getElem? hp) with k | k
    · exact .inl ⟨k, bindL_get ndP hp hu k⟩
    · obtain ⟨c, e⟩ := cell_has (n := s.heap.objs.size + 1) k
      refine .inr ⟨.inl k, c, e, ?_⟩
      have q := x.cell y c e
      rw [bindC_get ndP hp hu (by show scope.names.lookup y ≠ _; rw [k]; decide)] at q
      exact q
  · exact e0.hok.fresh (Nat.le_of_lt (x.above y c (PySem.mem_of_lookup h)))
  · unfold start
    show _ = N.length
    rw [List.length_append, List.length_map, List.length_replicate]
    omega

/-- THE RULE: a def (or a method) of the text, by its body. The body's reading t is chosen for each entry; it is run at the parameters' values -/
theorem fn_of {CX : CXT} {P : Program} {w : World} {K : PySem.W.Frag} {mg : Str → Option Value} {base : Heap} {k : Nat} {f : Addr} {name qual : Str} {params : Arguments} {body : List Stmt} {scope : Scope} {dV kV doc pm cdv ct oc : Value} {an od : Option Addr}
    {osl : Array (Option Value)} {N ps : List Str} {sp : Sp} (lk : K.lookup f = some ⟨oc, od, .func (PySem.W.fnOf name qual params body scope dV kV doc pm an cdv ct), osl⟩) (hcd : PySem.W.codeIn K cdv qual = true) (S : FnScope N ps scope)
    (len : ∀ vs H Q E, sp vs H Q E → vs.length = ps.length)
    (hbody : ∀ (A : Around) (outer : List Env) (s : Shared) (H : Hp) (vs : List V) (Q : VK) (E : XK), Room k (A.deeper (envOfC qual scope s.heap.objs.size f cdv)) → sp vs H Q E →
      ∃ t, PSs (cxOf CX P w K mg base N qual scope f cdv A outer s H E) body t ∧ t { nx := fun _ H' => Q .non H', rt := Q } (start N vs) H) :
    FnOk P w K mg base CX (k + 1) f (PySem.W.fnOf name qual params body scope dV kV doc pm an cdv ct) ps sp := by
  refine ⟨len, fun A outer s H args us vs Q E hr e0 hb r hsp => ?_⟩
  have hl := len _ _ _ _ hsp
  have KX : K.In s.heap := e0.mod.kin.keeps fun b o e => (e0.bs b o e).1
  have lim : s.heap.NoLimit := e0.mod.nolimit.keeps fun b o e => (e0.bs b o e).1
  have hkind : ∀ y ∈ ps.zip us, scope.names.lookup y.1 = some .local ∨ (scope.names.lookup y.1 = some .cell ∧ ((cellsFrom (s.heap.objs.size + 1) scope.names []).lookup y.1).isSome = true) := fun ⟨n, v⟩ hy => by
    rcases S.par n (List.of_mem_zip hy).1 with q | q
    · exact .inl q
    · exact .inr ⟨q, PySem.W.cellsFrom_some _ _ _ (.inl q)⟩
  refine codeAny_call_function hr.depth (KX _ _ lk) rfl S.co S.gen rfl (PySem.W.codeRec_of KX hcd) (hb _ _ _ _ ?_)
  refine wpAny_newFunctionEnv_cells S.kind hkind fun env he s1 x => ?_
  subst he
  refine ⟨lim.keeps x.toInCall.keep, codeAny_func ?_⟩
  obtain ⟨t, ht, hq⟩ := hbody A outer s H vs Q E (hr.deeper _) hsp
  have I : Inv (cxOf CX P w K mg base N qual scope f cdv A outer s H E) [] (start N vs) H s1 := inv_start S hr.hd e0 hl r x
  refine wpAny_mono (ht [] s1 (start N vs) H _ I hq) (fun fl s' hs => ?_) fun e s' hs => hs
  have fin : ∀ {σ' : St} {H' : Hp} {v : V} {u : Value}, Inv (cxOf CX P w K mg base N qual scope f cdv A outer s H E) [] σ' H' s' → RelV v u → Q v H' → CE outer P w H s Q u s' :=
    fun {σ' H' v u} J rv q => ⟨v, H', J.os, J.bare, J.base, J.hok, rv, q⟩
  cases fl with
  | ret u =>
    obtain ⟨v, σ', H', J, rv, q⟩ := hs
    exact fin J rv q
  | next =>
    obtain ⟨σ', H', J, q⟩ := hs
    exact fin (v := V.non) (u := Value.none) J rfl q
  | brk =>
    obtain ⟨_, _, _, q⟩ := hs
    exact False.elim q
  | cont =>
    obtain ⟨_, _, _, q⟩ := hs
    exact False.elim q
end L2

namespace L2
open PySem PySem.Spec PyProof.Rows
section
variable {X : Cx} {x : Str} {p pos : Pos} {e : Expr} {es : List Expr} {t : TA} {id T : String} {r : List V → Hp → VK → Prop}

def tCB (r : List V → Hp → VK → Prop) (t : TA) : TE := fun σ H Q => t σ H fun vs H1 => r vs H1 Q
/-- f(e, ..), f a built-in function -/
theorem pe_callB (hc : CallR X (.builtin id) r) (hg : Gl X x) (hm : X.mg x = none) (hv : bootBuiltins x = some (.builtin id)) (ha : PA X (e :: es) t) (hn : x ≠ "__name__" := by decide) (hdb : (x == ("__debug__" : Str)) = false := by decide)
    (he : starEach (e :: es) X.env = (false, eval e X.env) :: starEach es X.env := by rfl) (hpl : (backTo pos (starEach es X.env)).any (·.1) = false := by rfl) : PE X (.Call (.Name x p) (e :: es) [] pos) (tCB r t) := by
  intro pins s σ H Q I h
  refine wpAny_Call_Name_kw (ld_blt I hg hm hv ?_ hn hdb)
  exact PyProof.Rows.callWith_builtin1 (thn (ha pos pins s σ H _ I h) fun us s1 ⟨vs, H1, I1, r1, q1⟩ => hc pins s1 σ H1 vs us Q I1 r1 q1) he hpl
/-- T(e, ..), T a built-in type -/
theorem pe_callTy (hc : CallR X (.type T) r) (hg : Gl X x) (hm : X.mg x = none) (hv : bootBuiltins x = some (.type T)) (ha : PA X (e :: es) t) (hn : x ≠ "__name__" := by decide) (hdb : (x == ("__debug__" : Str)) = false := by decide)
    (he : starEach (e :: es) X.env = (false, eval e X.env) :: starEach es X.env := by rfl) (hpl : (backTo pos (starEach es X.env)).any (·.1) = false := by rfl) : PE X (.Call (.Name x p) (e :: es) [] pos) (tCB r t) := by
  intro pins s σ H Q I h
  refine wpAny_Call_Name_kw (ld_blt I hg hm hv ?_ hn hdb)
  exact PyProof.Rows.callWith_type1 (thn (ha pos pins s σ H _ I h) fun us s1 ⟨vs, H1, I1, r1, q1⟩ => hc pins s1 σ H1 vs us Q I1 r1 q1) he hpl
end
end L2

namespace HT
open PySem PyProof.Rows

/-- t < u of tuples of ints -/
def lexLt : List Int → List Int → Bool
  | [], [] => false
  | [], _ :: _ => true
  | _ :: _, [] => false
  | x :: xs, y :: ys => if x = y then lexLt xs ys else decide (x < y)
theorem lexLt_cons (x y : Int) (xs ys : List Int) : lexLt (x :: xs) (y :: ys) = if x = y then lexLt xs ys else decide (x < y) := rfl
theorem lexLt_nil_nil : lexLt [] [] = false := rfl
theorem lexLt_nil_cons (y : Int) (ys : List Int) : lexLt [] (y :: ys) = true := rfl
theorem lexLt_cons_nil (x : Int) (xs : List Int) : lexLt (x :: xs) [] = false := rfl

theorem eqAt_int (A : Around) (s : Shared) (a : Int) (t : Tok) (c : Int) (u : Tok) : ∃ e, SeqAt.EqAt A s (.int a t) (.int c u) e ∧ (e = true ↔ a = c) :=
  ⟨(a == c), SeqAt.EqAt.int_int a t c u, by simp⟩
theorem rcLt_int (A : Around) (s : Shared) (a : Int) (t : Tok) (c : Int) (u : Tok) (prog : Program) (w : World) (E : Value → Shared → Prop) (Q : Value → Shared → Prop) (h : Q (.bool (decide (a < c))) s) :
    wpAny (model prog w) A (richCompare .Lt (.int a t) (.int c u)) Q E s :=
  (PyProof.Rows.lt_int h : wpAny (model prog w) A (compareOp .Lt (.int a t) (.int c u)) Q E s)

section
open PySem.SeqAt
open PySem.AutoSeq1 (wpAny_loadPart')
open PySem.MeetsSeq PySem.MeetsSeq2 PySem.MeetsSeq3

theorem tuple_lt_ints (l b : Addr) (items items2 : Array Value) (n n2 : Nat) (dd dd2 : Option Addr) (sl sl2 : Array (Option Value)) (ns ms : List Int) (hi : IntsAre items.toList ns) (hj : IntsAre items2.toList ms) :
    Meets (Builtin.«tuple.__lt__» ⟨[.ref l, .ref b], []⟩)
      (fun _ R s => s.heap.get? l = some { cls := .type "tuple", dict := dd, data := .seq items n, slots := sl } ∧ s.heap.get? b = some { cls := .type "tuple", dict := dd2, data := .seq items2 n2, slots := sl2 } ∧
        R (.ok (.ret (.bool (lexLt ns ms)))) s) :=
  .of_wp fun prog w A R s h => by
    obtain ⟨hp, g, d, tk, os⟩ := s; obtain ⟨hl, hb, h⟩ := h
    have f2 := AutoSeq1.sub_tuple_tuple
    have z1 : items.size = ns.length := by rw [← hi.length]; simp
    have z2 : items2.size = ms.length := by rw [← hj.length]; simp
    wp_walk using wpAny_loadPart' hl, wpAny_loadPart' hb, wpAny_forIn_list _ (fun rest b s' => b.1 = none ∧ s' = ⟨hp, g, d, tk, os⟩ ∧ ∃ (vs ws : List Value) (ns' ms' : List Int), rest = vs.zip ws ∧
      IntsAre vs ns' ∧ IntsAre ws ms' ∧ ns'.length + items2.size = ms'.length + items.size ∧ R (.ok (.ret (.bool (lexLt ns' ms')))) ⟨hp, g, d, tk, os⟩) _
    case turn =>
      rintro ⟨y, x⟩ rest b s' ⟨hb', rfl, vs, ws, ns', ms', hz, hvi, hwi, hlen, hR⟩
      cases hvi with
      | nil => rw [List.zip_nil_left] at hz; cases hz
      | cons a t hvi' =>
        cases hwi with
        | nil => rw [List.zip_nil_right] at hz; cases hz
        | cons c u hwi' =>
          rw [List.zip_cons_cons] at hz
          injection hz with hyx hrest
          injection hyx with hy hx
          subst hy hx
          rw [lexLt_cons] at hR
          simp only [List.length_cons] at hlen
          obtain ⟨e, he, hiff⟩ := eqAt_int A.in1 ⟨hp, g, d, tk, os⟩ a t c u
          refine wpAny_bind (he prog w _ _ ?_)
          cases e with
          | true =>
            rw [if_pos (hiff.mp rfl)] at hR
            wp_walk
            exact ⟨rfl, rfl, _, _, _, _, hrest, hvi', hwi', by omega, hR⟩
          | false =>
            rw [if_neg (fun q => absurd (hiff.mpr q) Bool.false_ne_true)] at hR
            have hri := rcLt_int A.in1 ⟨hp, g, d, tk, os⟩ a t c u prog w
            wp_walk using hri
            exact ⟨_, rfl, by simpa using hR⟩
    case fin =>
      rintro ⟨b1, b2⟩ s' ⟨hb', rfl, vs, ws, ns', ms', hz, hvi, hwi, hlen, hR⟩
      simp only at hb'
      subst hb'
      have hv : lexLt ns' ms' = decide (items.size < items2.size) := by
        cases hvi with
        | nil =>
          cases hwi with
          | nil =>
            simp only [List.length_nil] at hlen
            rw [lexLt_nil_nil]
            exact (decide_eq_false (by omega)).symm
          | cons c u hw =>
            simp only [List.length_nil, List.length_cons] at hlen
            rw [lexLt_nil_cons]
            exact (decide_eq_true (by omega)).symm
        | cons a t hv =>
          cases hwi with
          | nil =>
            simp only [List.length_nil, List.length_cons] at hlen
            rw [lexLt_cons_nil]
            exact (decide_eq_false (by omega)).symm
          | cons c u hw =>
            rw [List.zip_cons_cons] at hz
            cases hz
      rw [hv] at hR
      wp_walk
      exact ⟨_, rfl, by simpa [Builtin.Tuple.tupleCompareSizes] using hR⟩
    case h =>
      exact ⟨rfl, rfl, items.toList, items2.toList, ns, ms, rfl, hi, hj, by omega, h⟩
end

section
variable {prog : Program} {w : World} {A : Around} {E : Value → Shared → Prop} {s : Shared}

theorem lt_tupInts {l b : Addr} {items items2 : Array Value} {ns ms : List Int} {Q : Value → Shared → Prop} (hl : IsTup s.heap l items) (hb : IsTup s.heap b items2) (hi : IntsAre items.toList ns) (hj : IntsAre items2.toList ms)
    (hu : A.units < cLine) (h : Q (.bool (lexLt ns ms)) s) : wpAny (model prog w) A (compareOp .Lt (.ref l) (.ref b)) Q E s := by
  obtain ⟨⟨cls, dd, data, sl⟩, ho, hc, n, hd⟩ := id hl
  obtain ⟨⟨cls2, dd2, data2, sl2⟩, ho2, hc2, n2, hd2⟩ := id hb
  simp only at hc hd hc2 hd2
  subst hc hd hc2 hd2
  exact richCompare_meets_room (op := .Lt) ⟨_, ho, rfl⟩ ⟨_, ho2, rfl⟩ PySem.F.slot_tuple_lt PySem.F.entry_tuple_lt (PySem.F.args_tuple_lt_2 _ _) (tuple_lt_ints l b items items2 n n2 dd dd2 sl sl2 ns ms hi hj)
    ⟨ho, ho2, show Value.bool (lexLt ns ms) ≠ Value.notImplemented ∧ Q (.bool (lexLt ns ms)) s from ⟨(fun x => nomatch x), h⟩⟩ hu


/-! ### t[a:b], not the whole -/
/-- a slice's bound as a place among n (d where it is left out) -/
def sIx (n d : Nat) : Option Int → Nat
  | none => d
  | some v => if v < 0 then (v + (n : Int)).toNat else min v.toNat n
theorem sIx_none (n d : Nat) : sIx n d none = d := rfl
theorem sIx_nat (n d k : Nat) : sIx n d (some (k : Int)) = min k n := by
  show (if (k : Int) < 0 then ((k : Int) + (n : Int)).toNat else min (k : Int).toNat n) = min k n
  rw [if_neg (by omega), Int.toNat_natCast]

end
end HT

namespace L2
open PySem PySem.Spec PyProof.Rows

/-! ### the parts of a slice -/
abbrev TO := St → Hp → (Option Int → Hp → Prop) → Prop
/-- a slice's part (left out, or an int) -/
def PO (X : Cx) (e : Option Expr) (t : TO) : Prop :=
  ∀ (pins : List (Addr × Obj)) (s : Shared) (σ : St) (H : Hp) (Q : Option Int → Hp → Prop), Inv X pins σ H s → t σ H Q →
    wpAny (model X.prog X.w) X.A (evalPart e X.env) (fun u s' => ∃ o H', Inv X pins σ H' s' ∧ IsPart u o ∧ Q o H') X.xe s
def tNoPart : TO := fun _ H Q => Q none H
def tPart (t : TE) : TO := fun σ H Q => t σ H fun x H1 => ∃ i, x = .int i ∧ Q (some i) H1

theorem intsAre_of {ns : List Int} : ∀ {us : List Value}, Vals (ns.map V.int) us → IntsAre us ns := by
  induction ns with
  | nil => intro us r; rw [List.map_nil] at r; cases r; exact .nil
  | cons n ns ih =>
    intro us r
    rw [List.map_cons] at r
    cases r with
    | cons r1 r2 =>
      obtain ⟨t, e⟩ := r1
      subst e
      exact .cons n t (ih r2)

section
variable {X : Cx} {e : Expr} {te : TE} {lo hi : Option Expr} {tl th : TO} {pos p2 : Pos}

theorem po_none : PO X none tNoPart := by
  intro pins s σ H Q I h
  rw [evalPart_none]
  exact wpAny_pure ⟨none, H, I, .none, h⟩
theorem po_some (h : PE X e te) : PO X (some e) (tPart te) := by
  intro pins s σ H Q I hw
  rw [evalPart_some]
  refine thn (h pins s σ H _ I hw) fun u s1 ⟨x, H1, I1, r1, q1⟩ => ?_
  obtain ⟨i, rfl, q⟩ := q1
  obtain ⟨t, rfl⟩ := r1
  exact ⟨some i, H1, I1, .int i t, q⟩

/-- what a slice of a value is, by values: the slice object stands at sl -/
def SlR (X : Cx) (r : V → Option Int → Option Int → Hp → VK → Prop) : Prop :=
  ∀ (pins : List (Addr × Obj)) (s : Shared) (σ : St) (H : Hp) (x : V) (v vl vu : Value) (lo hi : Option Int) (sl : Addr) (Q : VK), Inv X pins σ H s → RelV x v → s.heap.IsSliceOf sl vl vu .none → IsPart vl lo → IsPart vu hi → r x lo hi H Q →
    ∃ T id, typeLookup (.type T) "__getitem__" = pure (some (.builtin id)) ∧ s.TypeIs v T ∧ wpAny (model X.prog X.w) X.A (getItem v (.ref sl)) (EP X pins σ Q) X.xe s
def tSl (r : V → Option Int → Option Int → Hp → VK → Prop) (te : TE) (tl th : TO) : TE := fun σ H Q => te σ H fun x H1 => tl σ H1 fun l H2 => th σ H2 fun u H3 => r x l u H3 Q
/-- a[lo:hi], any a -/
theorem pe_slice {r : V → Option Int → Option Int → Hp → VK → Prop} (hr : SlR X r) (he : PE X e te) (hl : PO X lo tl) (hu : PO X hi th) : PE X (.Subscript e (.Slice lo hi none p2) pos) (tSl r te tl th) := by
  intro pins s σ H Q I h
  refine Subscript_ (thn (he pins s σ H _ I h) fun v s1 ⟨x, H1, I1, r1, q1⟩ => ?_)
  refine wpAny_Slice (thn (hl pins s1 σ H1 _ I1 q1) fun vl s2 ⟨l, H2, I2, pl, q2⟩ => thn (hu pins s2 σ H2 _ I2 q2) fun vu s3 ⟨u, H3, I3, pu, q3⟩ => ?_)
  rw [evalPart_none]
  refine wpAny_pure ?_
  have I4 : Inv X pins σ H3 { s3 with heap := s3.heap.push { cls := .type "slice", data := .fields #[vl, vu, .none] } } := I3.kept (t' := s3.toks) fun b ob q => Heap.get?_push_of_some _ q
  obtain ⟨T, id, hT, ht, hg⟩ := hr pins { s3 with heap := s3.heap.push { cls := .type "slice", data := .fields #[vl, vu, .none] } } σ H3 x v vl vu l u s3.heap.objs.size Q I4 r1 (Heap.IsSliceOf.new ..) pl pu q3
  show wpAny (model X.prog X.w) X.A (subscriptTail e (.Slice lo hi none p2) v (.ref s3.heap.objs.size)) (EP X pins σ Q) X.xe { s3 with heap := s3.heap.push { cls := .type "slice", data := .fields #[vl, vu, .none] } }
  exact tail_any (ops := [.ref s3.heap.objs.size, v]) ht hT hg (by with_unfolding_all rfl)

/-- the items of xs[lo:hi] -/
def cutV (xs : List V) (lo hi : Option Int) : List V := (xs.drop (HT.sIx xs.length 0 lo)).take (HT.sIx xs.length xs.length hi - HT.sIx xs.length 0 lo)
theorem cutV_length (xs : List V) (lo hi : Option Int) : (cutV xs lo hi).length ≤ xs.length := by
  unfold cutV
  rw [List.length_take, List.length_drop]
  omega

/-! ### t < u, t + u -/
def rLtT (K : PySem.W.Frag) : R2 := fun x y H Q => ∃ a b ns ms, x = .ref a ∧ y = .ref b ∧ SqT K H a (ns.map V.int) ∧ SqT K H b (ms.map V.int) ∧ Q (.bl (HT.lexLt ns ms)) H
theorem op_ltT (hu : X.A.units < cLine) : OpR X (compareOp .Lt) (rLtT X.K) := by
  intro pins s σ H x y v u Q I rx ry h
  obtain ⟨a, b, ns, ms, rfl, rfl, ha, hb, q⟩ := h
  cases rx
  cases ry
  obtain ⟨its, r1, p1, _⟩ := I.tuple ha
  obtain ⟨its2, r2, p2, _⟩ := I.tuple hb
  have i1 : IntsAre its.toArray.toList ns := intsAre_of r1
  have i2 : IntsAre its2.toArray.toList ms := intsAre_of r2
  exact HT.lt_tupInts p1 p2 i1 i2 hu ⟨.bl (HT.lexLt ns ms), H, I, rfl, q⟩
end
end L2

namespace L2
open PySem PySem.Spec PyProof.Rows

/-! ### places -/
/-- the place that an index of any sign means -/
def ixN (n : Nat) (i : Int) : Option Nat := if 0 ≤ i then (if i < n then some i.toNat else none) else if -(n : Int) ≤ i then some (i + n).toNat else none
def atI {α : Type} (xs : List α) (i : Int) : Option α := (ixN xs.length i).bind fun j => xs[j]?
theorem ixN_seq {n : Nat} {i : Int} {j : Nat} (h : ixN n i = some j) : seqIndex? i n = some j ∧ j < n ∧ -(n : Int) ≤ i ∧ i < n := by
  unfold ixN at h
  by_cases h0 : 0 ≤ i
  · rw [if_pos h0] at h
    by_cases h1 : i < n
    · rw [if_pos h1] at h
      have e : i.toNat = j := Option.some.inj h
      exact ⟨by rw [seqIndex_of h0 h1, e], by omega, by omega, h1⟩
    · rw [if_neg h1] at h; cases h
  · rw [if_neg h0] at h
    by_cases h1 : -(n : Int) ≤ i
    · rw [if_pos h1] at h
      have e : (i + n).toNat = j := Option.some.inj h
      exact ⟨by rw [seqIndex_neg (by omega) h1, e], by omega, h1, by omega⟩
    · rw [if_neg h1] at h; cases h
theorem atI_get {α : Type} {xs : List α} {i : Int} {v : α} (h : atI xs i = some v) : ∃ j, seqIndex? i xs.length = some j ∧ xs[j]? = some v ∧ j < xs.length ∧ -(xs.length : Int) ≤ i ∧ i < xs.length := by
  unfold atI at h
  cases e : ixN xs.length i with
  | none => rw [e] at h; cases h
  | some j =>
    rw [e] at h
    obtain ⟨h1, h2, h3, h4⟩ := ixN_seq e
    exact ⟨j, h1, h, h2, h3, h4⟩
theorem atI_nat {α : Type} {xs : List α} {j : Nat} {v : α} (h : xs[j]? = some v) : atI xs (j : Int) = some v := by
  have hj : j < xs.length := (List.getElem?_eq_some_iff.mp h).1
  have e : ixN xs.length (j : Int) = some j := by
    unfold ixN
    rw [if_pos (by omega), if_pos (by omega)]; simp
  unfold atI; rw [e]; exact h

/-! ### what may be subscripted -/
/-- what stands as an index of a plain subscript -/
def PlainIx (b : Expr) : Prop := ∀ o i, subscripted b false o i = operate [o, i] (getItem o i)
/-- a subscript by values -/
def IxR (X : Cx) (r : R2) : Prop :=
  ∀ (value slice : Expr) (pins : List (Addr × Obj)) (s : Shared) (σ : St) (H : Hp) (x y : V) (v u : Value) (Q : VK), Inv X pins σ H s → RelV x v → RelV y u → r x y H Q →
    subscripted slice false v u = operate [v, u] (getItem v u) → wpAny (model X.prog X.w) X.A (subscriptTail value slice v u) (EP X pins σ Q) X.xe s
/-- a call of a builtin's method by values: the receiver, the arguments -/
def MtR (X : Cx) (id : String) (r : V → List V → Hp → VK → Prop) : Prop :=
  ∀ (pins : List (Addr × Obj)) (s : Shared) (σ : St) (H : Hp) (x : V) (xs : List V) (v : Value) (us : List Value) (Q : VK), Inv X pins σ H s → RelV x v → Vals xs us → r x xs H Q →
    wpAny (model X.prog X.w) X.A (call (.builtin id) (v :: us)) (EP X pins σ Q) X.xe s
section
variable {X : Cx} {a b : Expr} {ta tb : TE} {pos : Pos}
/-- a[b] -/
theorem pe_ix {r : R2} (hr : IxR X r) (ha : PE X a ta) (hb : PE X b tb) (hs : PlainIx b) : PE X (.Subscript a b pos) (tOp r ta tb) := by
  intro pins s σ H Q I h
  exact Subscript_ (binT ha hb I h fun v u s2 x y H2 I2 rx ry q => hr a b pins s2 σ H2 x y v u Q I2 rx ry q (hs _ _))

def rIxL (K : PySem.W.Frag) : R2 := fun x y H Q => ∃ p xs i v, x = .ref p ∧ y = .int i ∧ SqL K H p xs ∧ atI xs i = some v ∧ Q v H
def rIxT (K : PySem.W.Frag) : R2 := fun x y H Q => ∃ p xs i v, x = .ref p ∧ y = .int i ∧ SqT K H p xs ∧ atI xs i = some v ∧ Q v H
def rIxS : R2 := fun x y H Q => ∃ z i c, x = .str z ∧ y = .int i ∧ z.length ≤ sizeLine ∧ atI z.cps.toList i = some c ∧ Q (.str ⟨#[c]⟩) H
theorem ix_list : IxR X (rIxL X.K) := by
  intro value slice pins s σ H x y v u Q I rx ry h hs
  obtain ⟨p, xs, i, z, rfl, rfl, hq, he, q⟩ := h
  cases rx
  obtain ⟨t, rfl⟩ := ry
  obtain ⟨its, r, pl, hz⟩ := I.list hq
  obtain ⟨j, h1, h2, h3, h4, h5⟩ := atI_get he
  obtain ⟨w, ew, rw'⟩ := r.get h2
  have hl := r.length
  have hn := line63
  have fin : EP X pins σ Q w s := ⟨z, H, I, rw', q⟩
  by_cases h0 : 0 ≤ i
  · have hj : i.toNat = j := by
      rw [seqIndex_of h0 h5] at h1
      exact Option.some.inj h1
    exact item_listR pl.isList h0 (by omega) (by rw [hj]; simpa using ew) fin hs
  · have hj : (i + (its.toArray.size : Int)).toNat = j := by
      rw [seqIndex_neg (by omega) h4] at h1
      rw [List.size_toArray, ← hl]
      exact Option.some.inj h1
    exact subscriptTail_builtinR (x := w) pl.isList.typeIs slot_list_getitem.lookup
      (wpAny_getItem_list_neg (Q := fun r s' => r = w ∧ EP X pins σ Q r s') pl.isList (by omega) (by rw [List.size_toArray] <;> omega) (by omega) (by rw [hj]; simpa using ew) ⟨rfl, fin⟩) hs
theorem ix_tup : IxR X (rIxT X.K) := by
  intro value slice pins s σ H x y v u Q I rx ry h hs
  obtain ⟨p, xs, i, z, rfl, rfl, hq, he, q⟩ := h
  cases rx
  obtain ⟨t, rfl⟩ := ry
  obtain ⟨its, r, pl, hz⟩ := I.tuple hq
  obtain ⟨j, h1, h2, h3, h4, h5⟩ := atI_get he
  obtain ⟨w, ew, rw'⟩ := r.get h2
  have hl := r.length
  have hn := line63
  have fin : EP X pins σ Q w s := ⟨z, H, I, rw', q⟩
  exact subscriptTail_builtinR (x := w) pl.typeIs slot_tuple_getitem.lookup
    (getItem_tuple (j := j) (Q := fun r s' => r = w ∧ EP X pins σ Q r s') pl (by omega) (by omega) (by rw [List.size_toArray, ← hl]; exact h1) (by simpa using ew) ⟨rfl, fin⟩) hs
theorem ix_str : IxR X rIxS := by
  intro value slice pins s σ H x y v u Q I rx ry h hs
  obtain ⟨z, i, c, rfl, rfl, hz, he, q⟩ := h
  obtain ⟨t, rfl⟩ := rx
  obtain ⟨t', rfl⟩ := ry
  obtain ⟨j, h1, h2, h3, h4, h5⟩ := atI_get he
  have hl : z.cps.toList.length = z.length := by simp [Str.length]
  rw [hl] at h1 h4 h5
  have hn := line63
  exact tail_any (typeIs_str s z t) slot_str_getitem.lookup (getItem_str (c := c) (by
    have e1 : decide (i < -(2 ^ 63 : Int)) = false := decide_eq_false (by omega)
    have e2 : decide (i ≥ 2 ^ 63) = false := decide_eq_false (by omega)
    rw [e1, e2, Bool.or_false]) (by rw [h1]; simpa using h2) ⟨.str ⟨#[c]⟩, H, I.tok _, ⟨_, rfl⟩, q⟩) hs

/-! ### xs[i] = v, any sign -/

/-! ### slices -/
theorem slice_bounds (lo hi : Option Int) (n : Nat) : (sliceBounds lo hi none n).1 = ((HT.sIx n 0 lo : Nat) : Int) ∧ (sliceBounds lo hi none n).2.1 = ((HT.sIx n n hi : Nat) : Int) ∧ (sliceBounds lo hi none n).2.2 = 1 := by
  refine ⟨?_, ?_, rfl⟩
  · cases lo with
    | none => simp [sliceBounds, HT.sIx]
    | some i =>
      simp only [sliceBounds, HT.sIx, Option.getD_none, show (1 : Int) > 0 by decide, if_true]
      by_cases h : i < 0
      · simp only [h, if_true] <;> omega
      · simp only [h, if_false] <;> omega
  · cases hi with
    | none => simp [sliceBounds, HT.sIx]
    | some i =>
      simp only [sliceBounds, HT.sIx, Option.getD_none, show (1 : Int) > 0 by decide, if_true]
      by_cases h : i < 0
      · simp only [h, if_true] <;> omega
      · simp only [h, if_false] <;> omega
theorem slicePick_cut (its : List Value) (lo hi : Option Int) : slicePick its.toArray lo hi none = ((its.drop (HT.sIx its.length 0 lo)).take (HT.sIx its.length its.length hi - HT.sIx its.length 0 lo)).toArray := by
  obtain ⟨h1, h2, h3⟩ := slice_bounds lo hi its.toArray.size
  unfold slicePick
  rw [h1, h2, h3]
  simp only [sliceRange_one, pick_run, List.size_toArray] <;> rfl
/-- xs[lo:hi] of a list: a new list -/
def rSlL (K : PySem.W.Frag) : V → Option Int → Option Int → Hp → VK → Prop := fun x lo hi H Q => ∃ a xs, x = .ref a ∧ SqL K H a xs ∧ ∀ p, H p = none → Q (.ref p) (upd H p (.lst (cutV xs lo hi)))
theorem sl_list : SlR X (rSlL X.K) := by
  intro pins s σ H x v vl vu lo hi sl Q I rx hs pl pu h
  obtain ⟨a, xs, rfl, hx, q⟩ := h
  cases rx
  obtain ⟨its, r, ht, hz⟩ := I.list hx
  have hlen := r.length
  refine ⟨"list", _, slot_list_getitem.lookup, ht.isList.typeIs, ?_⟩
  refine wpAny_getItem_list_slice ht.isList hs pl pu .none (by simp) ?_ (by rw [List.size_toArray] <;> omega)
  rw [slicePick_cut, ← hlen]
  refine ⟨.ref s.heap.objs.size, _, I.laid (t' := s.toks) (o := .lst (cutV xs lo hi)) (fun b ob q => Heap.get?_push_of_some _ q) (Nat.le_refl _) ?_, rfl, q _ (I.hok.fresh (Nat.le_refl _))⟩
  exact ⟨Nat.le_trans (cutV_length xs lo hi) hz, _, 0, (r.drop (HT.sIx xs.length 0 lo)).take (HT.sIx xs.length xs.length hi - HT.sIx xs.length 0 lo), Heap.get?_push_size _ rfl⟩

/-! ### in, not in: flat items -/
def flatV : V → Bool
  | .non => true
  | .bl _ => true
  | .int _ => true
  | .str _ => true
  | _ => false
/-- == of flat values -/
def eqV : V → V → Bool
  | .non, .non => true
  | .bl a, .bl b => a == b
  | .bl a, .int b => (if a then 1 else 0) == b
  | .int a, .bl b => a == (if b then 1 else 0)
  | .int a, .int b => a == b
  | .str a, .str b => a == b
  | _, _ => false
theorem eqAt_V {A : Around} {s : Shared} {y x : V} {u v : Value} (ry : RelV y u) (rx : RelV x v) (fy : flatV y = true) (fx : flatV x = true) : SeqAt.EqAt A s u v (eqV y x) := by
  cases y with
  | non =>
    cases ry
    cases x with
    | non => cases rx; exact SeqAt.EqAt.same _
    | bl b => cases rx; exact SeqAt.EqAt.none_bool b
    | int b => obtain ⟨t, rfl⟩ := rx; exact SeqAt.EqAt.none_int b t
    | str b => obtain ⟨t, rfl⟩ := rx; exact SeqAt.EqAt.none_str b t
    | _ => exact absurd (show false = true from fx) Bool.false_ne_true
  | bl a =>
    cases ry
    cases x with
    | non => cases rx; exact SeqAt.EqAt.bool_none a
    | bl b => cases rx; exact SeqAt.EqAt.bool_bool a b
    | int b => obtain ⟨t, rfl⟩ := rx; exact SeqAt.EqAt.bool_int a b t
    | str b => obtain ⟨t, rfl⟩ := rx; exact SeqAt.EqAt.bool_str a b t
    | _ => exact absurd (show false = true from fx) Bool.false_ne_true
  | int a =>
    obtain ⟨t', rfl⟩ := ry
    cases x with
    | non => cases rx; exact SeqAt.EqAt.int_none a t'
    | bl b => cases rx; exact SeqAt.EqAt.int_bool a t' b
    | int b => obtain ⟨t, rfl⟩ := rx; exact SeqAt.EqAt.int_int a t' b t
    | str b => obtain ⟨t, rfl⟩ := rx; exact SeqAt.EqAt.int_str a t' b t
    | _ => exact absurd (show false = true from fx) Bool.false_ne_true
  | str a =>
    obtain ⟨t', rfl⟩ := ry
    cases x with
    | non => cases rx; exact SeqAt.EqAt.str_none a t'
    | bl b => cases rx; exact SeqAt.EqAt.str_bool a t' b
    | int b => obtain ⟨t, rfl⟩ := rx; exact SeqAt.EqAt.str_int a t' b t
    | str b => obtain ⟨t, rfl⟩ := rx; exact SeqAt.EqAt.str_str a t' b t
    | _ => exact absurd (show false = true from fx) Bool.false_ne_true
  | _ => exact absurd (show false = true from fy) Bool.false_ne_true
/-- the items' answers, read off the values (a value's own answer does not lean on its token) -/
def eqU (x : V) (u : Value) : Bool := match u with
  | .none => eqV .non x
  | .bool b => eqV (.bl b) x
  | .int i _ => eqV (.int i) x
  | .str z _ => eqV (.str z) x
  | _ => false
theorem eqU_of {x y : V} {u : Value} (r : RelV y u) (f : flatV y = true) : eqU x u = eqV y x := by
  cases y with
  | non => cases r; rfl
  | bl b => cases r; rfl
  | int i => obtain ⟨t, rfl⟩ := r; rfl
  | str z => obtain ⟨t, rfl⟩ := r; rfl
  | _ => exact absurd (show false = true from f) Bool.false_ne_true
theorem any_eqU {x : V} : ∀ {xs : List V} {us : List Value}, Vals xs us → xs.all flatV = true → us.any (eqU x) = xs.any fun y => eqV y x
  | _, _, .nil, _ => rfl
  | y :: xs, u :: us, .cons r t, f => by
    rw [List.all_cons, Bool.and_eq_true] at f
    rw [List.any_cons, List.any_cons, eqU_of r f.1, any_eqU t f.2]
theorem mem_eqAt {A : Around} {s : Shared} {x : V} {v : Value} (rx : RelV x v) (fx : flatV x = true) : ∀ {xs : List V} {us : List Value}, Vals xs us → xs.all flatV = true → ∀ u ∈ us, SeqAt.EqAt A s u v (eqU x u)
  | _, _, .nil, _ => fun u hu => by cases hu
  | y :: xs, u :: us, .cons r t, f => fun u' hu => by
    rw [List.all_cons, Bool.and_eq_true] at f
    rcases List.mem_cons.mp hu with rfl | hu
    · rw [eqU_of r f.1]; exact eqAt_V r rx f.1 fx
    · exact mem_eqAt rx fx t f.2 u' hu
def inV (x : V) (xs : List V) : Bool := xs.any fun y => eqV y x
/-- x in a list or tuple of flat items -/
def rIn (K : PySem.W.Frag) (neg : Bool) : R2 := fun x y H Q => ∃ p xs, y = .ref p ∧ (SqL K H p xs ∨ SqT K H p xs) ∧ flatV x = true ∧ xs.all flatV = true ∧ Q (.bl (if neg then !inV x xs else inV x xs)) H
theorem op_in_seq : OpR X (compareOp .In) (rIn X.K false) := by
  intro pins s σ H x y v u Q I rx ry h
  obtain ⟨p, xs, rfl, hq, fx, fs, q⟩ := h
  cases ry
  rcases hq with hq | hq
  · obtain ⟨its, r, pl, hz⟩ := I.list hq
    refine SeqAt.in_listAt (eqU x) pl.isList (fun w hw => mem_eqAt rx fx r fs w (by simpa using hw)) ⟨.bl _, H, I, rfl, ?_⟩
    rw [show its.toArray.any (eqU x) = its.any (eqU x) by simp, any_eqU r fs]
    exact q
  · obtain ⟨its, r, pl, hz⟩ := I.tuple hq
    refine SeqAt.in_tupleAt (eqU x) pl (fun w hw => mem_eqAt rx fx r fs w (by simpa using hw)) ⟨.bl _, H, I, rfl, ?_⟩
    rw [show its.toArray.any (eqU x) = its.any (eqU x) by simp, any_eqU r fs]
    exact q
theorem op_notIn_seq : OpR X (compareOp .NotIn) (rIn X.K true) := by
  intro pins s σ H x y v u Q I rx ry h
  obtain ⟨p, xs, rfl, hq, fx, fs, q⟩ := h
  cases ry
  rcases hq with hq | hq
  · obtain ⟨its, r, pl, hz⟩ := I.list hq
    refine SeqAt.notIn_listAt (eqU x) pl.isList (fun w hw => mem_eqAt rx fx r fs w (by simpa using hw)) ⟨.bl _, H, I, rfl, ?_⟩
    rw [show its.toArray.any (eqU x) = its.any (eqU x) by simp, any_eqU r fs]
    exact q
  · obtain ⟨its, r, pl, hz⟩ := I.tuple hq
    refine SeqAt.notIn_tupleAt (eqU x) pl (fun w hw => mem_eqAt rx fx r fs w (by simpa using hw)) ⟨.bl _, H, I, rfl, ?_⟩
    rw [show its.toArray.any (eqU x) = its.any (eqU x) by simp, any_eqU r fs]
    exact q

/-! ### len, list(x), tuple(x) of any list or tuple that is read -/
theorem call_len_seq : CallR X (.builtin "len") (fun xs H Q => ∃ p ys, xs = [.ref p] ∧ (SqL X.K H p ys ∨ SqT X.K H p ys) ∧ Q (.int ys.length) H) := by
  intro pins s σ H xs us Q I r h
  obtain ⟨p, ys, rfl, hq, q⟩ := h
  obtain ⟨u, rfl, rx⟩ := vals1 r
  cases rx
  have hn := line63
  rcases hq with hq | hq
  · obtain ⟨its, r', pl, hz⟩ := I.list hq
    have hlen := r'.length
    exact Calls.call_len_list pl.isList (by simp only [List.size_toArray] <;> omega) ⟨.int ys.length, H, I.tok _, ⟨s.toks + 1, by rw [List.size_toArray, hlen]⟩, q⟩
  · obtain ⟨its, r', pl, hz⟩ := I.tuple hq
    have hlen := r'.length
    exact len_tuple pl (by simp only [List.size_toArray] <;> omega) ⟨.int ys.length, H, I.tok _, ⟨s.toks + 1, by rw [List.size_toArray, hlen]⟩, q⟩
theorem call_len_str : CallR X (.builtin "len") (fun xs H Q => ∃ z, xs = [.str z] ∧ z.length ≤ sizeLine ∧ Q (.int z.length) H) := by
  intro pins s σ H xs us Q I r h
  obtain ⟨z, rfl, hz, q⟩ := h
  obtain ⟨u, rfl, t, rfl⟩ := vals1 r
  have hn := line63
  exact len_str (by omega) ⟨.int z.length, H, I.tok _, ⟨_, rfl⟩, q⟩
theorem call_list_of : CallR X (.type "list") (fun xs H Q => ∃ p ys, xs = [.ref p] ∧ (SqL X.K H p ys ∨ SqT X.K H p ys) ∧ ∀ l, H l = none → Q (.ref l) (upd H l (.lst ys))) := by
  intro pins s σ H xs us Q I r h
  obtain ⟨p, ys, rfl, hq, q⟩ := h
  obtain ⟨u, rfl, rx⟩ := vals1 r
  cases rx
  have fin : ∀ (its : List Value), Vals ys its → ys.length ≤ sizeLine → ∀ (h' : Heap) (c' : Nat), (∀ b o', s.heap.get? b = some o' → h'.get? b = some o') →
      h'.get? s.heap.objs.size = some { cls := .type "list", dict := none, data := .seq its.toArray c', slots := #[] } → EP X pins σ Q (.ref s.heap.objs.size) { s with heap := h' } := fun its r' hz h' c' kp e =>
    ⟨.ref s.heap.objs.size, _, I.laid (t' := s.toks) kp (Nat.le_refl _) (show ObjOk X.prog X.w _ h' _ (.lst ys) from ⟨hz, its, c', r', e⟩), rfl, q _ (I.hok.fresh (Nat.le_refl _))⟩
  rcases hq with hq | hq
  · obtain ⟨its, r', pl, hz⟩ := I.list hq
    have hlen := r'.length
    obtain ⟨o, ho, hc, n, hd⟩ := pl.isList
    exact call_list_seq p (.inl rfl) ho hc hd (fun h' c' kp e => fin its r' hz h' c' kp e) (by simp only [List.size_toArray] <;> omega)
  · obtain ⟨its, r', pl, hz⟩ := I.tuple hq
    have hlen := r'.length
    obtain ⟨o, ho, hc, n, hd⟩ := pl
    exact call_list_seq p (.inr rfl) ho hc hd (fun h' c' kp e => fin its r' hz h' c' kp e) (by simp only [List.size_toArray] <;> omega)

/-! ### the call of a builtin's method: o.m(..) -/
/-- the value is of that builtin type -/
def tyV (K : PySem.W.Frag) (T : String) (x : V) (H : Hp) : Prop := match x with
  | .str _ => T = "str"
  | .int _ => T = "int"
  | .ref p => (T = "list" ∧ ∃ xs, SqL K H p xs) ∨ (T = "tuple" ∧ ∃ o, K.lookup p = some o ∧ o.cls = .type "tuple" ∧ o.dict = none) ∨
      (T = "dict" ∧ ((∃ kvs, H p = some (.dK kvs)) ∨ ∃ kvs, H p = some (.dT kvs))) ∨ (T = "set" ∧ ∃ S n, H p = some (.set S n))
  | _ => False
theorem tyV_is {pins : List (Addr × Obj)} {σ : St} {H : Hp} {s : Shared} {T : String} {x : V} {v : Value} (I : Inv X pins σ H s) (r : RelV x v) (ty : tyV X.K T x H) :
    s.TypeIs v T ∧ ∀ a, v = .ref a → ∃ ob, s.heap.get? a = some ob ∧ ob.dict = none := by
  cases x with
  | str z =>
    obtain ⟨t, rfl⟩ := r
    cases (show T = "str" from ty)
    exact ⟨typeIs_str s z t, fun _ e => nomatch e⟩
  | int i =>
    obtain ⟨t, rfl⟩ := r
    cases (show T = "int" from ty)
    exact ⟨typeIs_int s i t, fun _ e => nomatch e⟩
  | ref p =>
    cases r
    rcases ty with ⟨rfl, xs, hq⟩ | ⟨rfl, o, hk, hc, hd⟩ | ⟨rfl, hk⟩ | ⟨rfl, S, n, hk⟩
    · obtain ⟨its, _, pl, _⟩ := I.list hq
      refine ⟨pl.isList.typeIs, fun a e => ?_⟩
      cases e
      obtain ⟨o, n, e, c, hd, _⟩ := pl
      exact ⟨o, e, hd⟩
    · refine ⟨⟨o, I.kIn p o hk, hc⟩, fun a e => ?_⟩
      cases e
      exact ⟨o, I.kIn _ o hk, hd⟩
    · have z : ∃ o, s.heap.get? p = some o ∧ o.ExactDict := by
        rcases hk with ⟨kvs, hk⟩ | ⟨kvs, hk⟩
        · obtain ⟨_, _, _, _, o, _, _, e, ex, _⟩ := I.hok p _ hk
          exact ⟨o, e, ex⟩
        · obtain ⟨_, _, _, _, o, _, _, e, ex, _⟩ := I.hok p _ hk
          exact ⟨o, e, ex⟩
      obtain ⟨o, e, ex⟩ := z
      refine ⟨⟨o, e, ex.1⟩, fun a e2 => ?_⟩
      cases e2
      exact ⟨o, e, ex.2.1⟩
    · obtain ⟨o, _, _, _, e, ex, _⟩ := I.hok p _ hk
      refine ⟨⟨o, e, ex.1⟩, fun a e2 => ?_⟩
      cases e2
      exact ⟨o, e, ex.2.1⟩
  | _ => exact False.elim ty
def tBM0 (K : PySem.W.Frag) (T : String) (r : V → List V → Hp → VK → Prop) (to : TE) : TE := fun σ H Q => to σ H fun x H1 => tyV K T x H1 ∧ r x [] H1 Q
def tBM (K : PySem.W.Frag) (T : String) (r : V → List V → Hp → VK → Prop) (to : TE) (t : TA) : TE := fun σ H Q => to σ H fun x H1 => tyV K T x H1 ∧ t σ H1 fun xs H2 => r x xs H2 Q
variable {o e : Expr} {es : List Expr} {to : TE} {t : TA} {name : Str} {apos cpos : Pos} {T id : String} {r : V → List V → Hp → VK → Prop}
theorem pe_bm0 (pa : PlainAttrs T) (slot : Slot T name id) (hty : typeOf (.builtin id) = pure (.type "method_descriptor")) (hm : MtR X id r) (ho : PE X o to)
    (hbase : attributeBase o name X.env (eval o X.env) = eval o X.env := by rfl) (hline : (apos.endLine == cpos.line) = true := by rfl) : PE X (.Call (.Attribute o name apos) [] [] cpos) (tBM0 X.K T r to) := by
  intro pins s σ H Q I h
  refine wpAny_Call_method0_late hbase hline (thn (ho pins s σ H _ I h) fun v s1 ⟨x, H1, I1, r1, ty, q1⟩ => ?_)
  obtain ⟨h1, h2⟩ := tyV_is I1 r1 ty
  exact ⟨T, id, pa, slot, hty, h1, h2, Calls.callWith_builtin rfl (PySem.evalArgs_none (hm pins s1 σ H1 x [] v [] Q I1 r1 .nil q1))⟩
theorem pe_bm (pa : PlainAttrs T) (slot : Slot T name id) (hty : typeOf (.builtin id) = pure (.type "method_descriptor")) (hm : MtR X id r) (ho : PE X o to) (ha : PA X (e :: es) t)
    (hbase : attributeBase o name X.env (eval o X.env) = eval o X.env := by rfl)
    (hfew : ((backTo cpos (starEach (e :: es) X.env)).all (fun x => !x.1) && (backToKw cpos (keywordEach [] X.env)).all (fun x => x.1.isSome)
      && decide ((e :: es).length + ([] : List Keyword).length + (if ([] : List Keyword).isEmpty then 0 else 1) < 30)) = true := by rfl)
    (hline : (apos.endLine == cpos.line) = true := by rfl) (hs : starEach (e :: es) X.env = (false, eval e X.env) :: starEach es X.env := by rfl) (hplain : (backTo cpos (starEach es X.env)).any (·.1) = false := by rfl) :
    PE X (.Call (.Attribute o name apos) (e :: es) [] cpos) (tBM X.K T r to t) := by
  intro pins s σ H Q I h
  refine wpAny_Call_method_late hbase hfew hline rfl (thn (ho pins s σ H _ I h) fun v s1 ⟨x, H1, I1, r1, ty, q1⟩ => ?_)
  obtain ⟨h1, h2⟩ := tyV_is I1 r1 ty
  refine ⟨T, id, pa, slot, hty, h1, h2, ?_⟩
  have hA := ha cpos pins s1 σ H1 _ I1 q1
  rw [hs] at hA ⊢
  refine Calls.callWith_builtin (by show (false || (backTo cpos (starEach es X.env)).any (·.1)) = false; rw [hplain] <;> rfl) (Calls.evalArgs_plain ?_)
  exact thn hA fun us s2 ⟨vs, H2, I2, r2, q2⟩ => hm pins s2 σ H2 x vs v us Q I2 r1 r2 q2
end
end L2

namespace L2
open PySem PySem.Spec PyProof.Rows

def MtM (X : Cx) (id : String) (r : V → List V → Hp → VK → Prop) : Prop :=
  ∀ (pins : List (Addr × Obj)) (s : Shared) (σ : St) (H : Hp) (x : V) (xs : List V) (v : Value) (us : List Value) (Q : VK), Inv X pins σ H s → RelV x v → Vals xs us → r x xs H Q →
    wpAny (model X.prog X.w) X.A (call (.builtin id) (v :: us)) (EP X pins σ Q) X.xe s

/-! ### lists of values -/
theorem Vals.one : ∀ {x : V} {us : List Value}, Vals [x] us → ∃ u, us = [u] ∧ RelV x u
  | _, _, .cons r .nil => ⟨_, rfl, r⟩
theorem Vals.zero : ∀ {us : List Value}, Vals [] us → us = []
  | _, .nil => rfl
theorem Vals.reverse {xs : List V} {us : List Value} (h : Vals xs us) : Vals xs.reverse us.reverse := by
  induction h with
  | nil => exact .nil
  | cons r t ih => rw [List.reverse_cons, List.reverse_cons]; exact Vals.append ih (.cons r .nil)

section
variable {X : Cx} {pins : List (Addr × Obj)} {σ : St} {H : Hp} {s : Shared} {l b : Addr} {xs ys zs : List V}

/-! ### the two steps: a tracked list is rewritten, a new list is laid -/
theorem Inv.lset {its its' : List Value} {n : Nat} {f : Array Value → Array Value} {t' : Nat} (I : Inv X pins σ H s) (hH : H l = some (.lst xs))
    (e : s.heap.get? l = some { cls := .type "list", data := .seq its.toArray n }) (hf : f its.toArray = its'.toArray) (hv : Vals ys its') (hz : ys.length ≤ sizeLine) :
    Inv X pins σ (upd H l (.lst ys)) { s with heap := s.heap.update l (Obj.mapSeq f), toks := t' } := by
  have q := PySem.IsL.update e f
  rw [hf] at q
  refine I.write (x := l) (e := l) (by rw [hH]; exact trivial) (.inl rfl) (fun b' u hb hu => (Heap.get?_update_other s.heap (Obj.mapSeq f) (Ne.symm hb)).trans hu) ⟨_, q⟩ ?_
  exact ⟨hz, its', _, hv, q⟩
theorem Inv.lstM (I : Inv X pins σ H s) (hH : H l = some (.lst xs)) : xs.length ≤ sizeLine ∧ ∃ (its : List Value) (n : Nat), Vals xs its ∧ xs.length = its.length ∧ s.heap.get? l = some { cls := .type "list", data := .seq its.toArray n } := by
  obtain ⟨z, its, n, r, e⟩ := I.hok l _ hH
  exact ⟨z, its, n, r, r.length, e⟩

end

section
variable {X : Cx}

/-! ### methods -/
def rAppend : V → List V → Hp → VK → Prop := fun x vs H Q => ∃ l xs y, x = .ref l ∧ vs = [y] ∧ H l = some (.lst xs) ∧ xs.length < sizeLine ∧ Q .non (upd H l (.lst (xs ++ [y])))
theorem mt_append : MtM X "list.append" rAppend := by
  intro pins s σ H x vs v us Q I rx rv h
  obtain ⟨l, xs, y, rfl, rfl, hH, hz, q⟩ := h
  cases rx
  obtain ⟨u, rfl, ru⟩ := rv.one
  obtain ⟨z, its, n, r, hl, e⟩ := I.lstM hH
  refine call_meets F.slot_list_append ⟨_, e, rfl⟩ F.entry_list_append (F.args_list_append_2 _ _) (PySem.list_append l its.toArray n u (by rw [List.size_toArray]; omega)) ⟨e, ?_⟩
  refine ⟨.non, _, I.lset (its' := its ++ [u]) hH e (by simp) (r.append (.cons ru .nil)) ?_, rfl, q⟩
  rw [List.length_append, List.length_singleton]
  omega




def rReverse : V → List V → Hp → VK → Prop := fun x vs H Q => ∃ l xs, x = .ref l ∧ vs = [] ∧ H l = some (.lst xs) ∧ Q .non (upd H l (.lst xs.reverse))
theorem mt_reverse : MtM X "list.reverse" rReverse := by
  intro pins s σ H x vs v us Q I rx rv h
  obtain ⟨l, xs, rfl, rfl, hH, q⟩ := h
  cases rx
  have hus := rv.zero
  subst hus
  obtain ⟨z, its, n, r, hl, e⟩ := I.lstM hH
  refine call_meets F.slot_list_reverse ⟨_, e, rfl⟩ F.entry_list_reverse (F.args_list_reverse_1 _) (AutoSeq1.list_reverse_list_0 l its.toArray n (by rw [List.size_toArray]; omega)) ⟨e, ?_⟩
  refine ⟨.non, _, I.lset (its' := its.reverse) hH e (by simp) r.reverse ?_, rfl, q⟩
  rw [List.length_reverse]
  omega


/-! ### list + list, list += list, list * int -/

/-! ### del xs[i] -/
end

/-! ### xs[a:b] = ys -/
section
variable {prog : Program} {w : World} {A : Around} {E : Value → Shared → Prop} {s : Shared}
set_option maxRecDepth 100000 in
end

section
variable {X : Cx}
end
end L2

namespace L2
open PySem PySem.Spec PyProof.Rows

/-! ### lists of pairs as tables -/
section
variable {κ : Type} [DecidableEq κ]
def valV (kvs : List (κ × V)) (k : κ) : Option V := (kvs.find? fun kv => decide (kv.1 = k)).map (·.2)
/-- in its place, or at the end -/
def putK (kvs : List (κ × V)) (k : κ) (v : V) : List (κ × V) :=
  if (kvs.any fun kv => decide (kv.1 = k)) = true then kvs.map (fun kv => if kv.1 = k then (kv.1, v) else kv) else kvs ++ [(k, v)]
def dropK (kvs : List (κ × V)) (k : κ) : List (κ × V) := kvs.filter fun kv => decide (kv.1 ≠ k)

theorem valV_pos {p : κ × V} {r : List (κ × V)} {k : κ} (e : p.1 = k) : valV (p :: r) k = some p.2 := by simp [valV, List.find?_cons, e]
theorem valV_neg {p : κ × V} {r : List (κ × V)} {k : κ} (e : ¬ p.1 = k) : valV (p :: r) k = valV r k := by simp [valV, List.find?_cons, e]
theorem valV_any (k : κ) : ∀ kvs : List (κ × V), (kvs.any fun kv => decide (kv.1 = k)) = (valV kvs k).isSome
  | [] => rfl
  | p :: r => by
    rw [List.any_cons]
    by_cases e : p.1 = k
    · simp only [valV_pos e, decide_eq_true e, Bool.true_or, Option.isSome_some]
    · rw [valV_neg e, decide_eq_false e, Bool.false_or]; exact valV_any k r
theorem valV_map (k j : κ) (y : V) : ∀ kvs : List (κ × V), valV (kvs.map fun kv => if kv.1 = k then (kv.1, y) else kv) j = (valV kvs j).map fun x => if j = k then y else x
  | [] => rfl
  | p :: r => by
    have ih := valV_map k j y r
    rw [List.map_cons]
    by_cases h : p.1 = k
    · rw [if_pos h]
      by_cases e : p.1 = j
      · rw [valV_pos (p := (p.1, y)) e, valV_pos e, Option.map_some, if_pos (e.symm.trans h)]
      · rw [valV_neg (p := (p.1, y)) e, valV_neg e, ih]
    · rw [if_neg h]
      by_cases e : p.1 = j
      · rw [valV_pos (p := p) e, valV_pos e, Option.map_some, if_neg (fun z => h (e.trans z))]
      · rw [valV_neg (p := p) e, valV_neg e, ih]
theorem valV_snoc (k j : κ) (y : V) : ∀ kvs : List (κ × V), valV kvs k = none → valV (kvs ++ [(k, y)]) j = if j = k then some y else valV kvs j
  | [], _ => by
    by_cases e : k = j
    · rw [if_pos e.symm]; exact valV_pos (p := (k, y)) e
    · rw [if_neg (fun z => e z.symm)]; exact valV_neg (p := (k, y)) e
  | p :: r, hn => by
    rw [List.cons_append]
    have hk : ¬ p.1 = k := fun z => by rw [valV_pos z] at hn; cases hn
    rw [valV_neg hk] at hn
    have ih := valV_snoc k j y r hn
    by_cases e : p.1 = j
    · rw [valV_pos e, valV_pos e, if_neg (fun z => hk (e.trans z))]
    · rw [valV_neg e, valV_neg e, ih]
theorem valV_put (kvs : List (κ × V)) (k j : κ) (y : V) : valV (putK kvs k y) j = if j = k then some y else valV kvs j := by
  unfold putK
  by_cases a : (kvs.any fun kv => decide (kv.1 = k)) = true
  · rw [if_pos a, valV_map]
    rw [valV_any] at a
    by_cases e : j = k
    · obtain ⟨x, hx⟩ := Option.isSome_iff_exists.mp a
      rw [if_pos e, e, hx, Option.map_some, if_pos rfl]
    · rw [if_neg e]
      cases valV kvs j with
      | none => rfl
      | some x => rw [Option.map_some, if_neg e]
  · rw [if_neg a]
    refine valV_snoc k j y kvs ?_
    rw [valV_any] at a
    cases q : valV kvs k with
    | none => rfl
    | some x => rw [q] at a; exact (a rfl).elim
theorem length_putK (kvs : List (κ × V)) (k : κ) (v : V) : (putK kvs k v).length ≤ kvs.length + 1 := by
  unfold putK
  split
  · rw [List.length_map]; omega
  · rw [List.length_append, List.length_cons, List.length_nil]; omega
theorem putK_new {kvs : List (κ × V)} {k : κ} (v : V) (h : valV kvs k = none) : putK kvs k v = kvs ++ [(k, v)] := by
  unfold putK
  rw [valV_any, h]
  exact if_neg (by decide)

theorem RelO.isSome_eq {o : Option V} {u : Option Value} (r : RelO o u) : o.isSome = u.isSome := by
  cases o with
  | none => cases u with
    | none => rfl
    | some _ => exact (show False from r).elim
  | some _ => cases u with
    | none => exact (show False from r).elim
    | some _ => rfl
theorem RelO.getD {o : Option V} {u : Option Value} {d : V} {d' : Value} (r : RelO o u) (rd : RelV d d') : RelV (o.getD d) (u.getD d') := by
  cases o with
  | none => cases u with
    | none => exact rd
    | some _ => exact (show False from r).elim
  | some _ => cases u with
    | none => exact (show False from r).elim
    | some _ => exact r

/-- raw tables of the same keys -/
theorem KV.val {kvs : List (κ × V)} {vs : List (κ × Value)} (r : KV kvs vs) (k : κ) : RelO (valV kvs k) (valueAt vs k) := by
  unfold KV at r
  induction r with
  | nil => exact True.intro
  | @cons p q ps qs h t ih =>
    obtain ⟨h1, h2⟩ := h
    by_cases e : p.1 = k
    · have e' : q.1 = k := h1.symm.trans e
      have b : valueAt (q :: qs) k = some q.2 := by simp [valueAt, List.find?_cons, e']
      rw [valV_pos e, b]; exact h2
    · have e' : ¬ q.1 = k := fun z => e (h1.trans z)
      have b : valueAt (q :: qs) k = valueAt qs k := by simp [valueAt, List.find?_cons, e']
      rw [valV_neg e, b]; exact ih
theorem KV.any {kvs : List (κ × V)} {vs : List (κ × Value)} (r : KV kvs vs) (k : κ) : (kvs.any fun kv => decide (kv.1 = k)) = vs.any fun kv => decide (kv.1 = k) := by
  unfold KV at r
  induction r with
  | nil => rfl
  | cons h t ih => rw [List.any_cons, List.any_cons, ih, h.1]
theorem KV.repl {kvs : List (κ × V)} {vs : List (κ × Value)} (r : KV kvs vs) (k : κ) {y : V} {u : Value} (ry : RelV y u) :
    KV (kvs.map fun kv => if kv.1 = k then (kv.1, y) else kv) (vs.map fun kv => if kv.1 = k then (kv.1, u) else kv) := by
  unfold KV at r ⊢
  induction r with
  | nil => exact .nil
  | @cons p q ps qs h t ih =>
    rw [List.map_cons, List.map_cons]
    refine .cons ?_ ih
    obtain ⟨h1, h2⟩ := h
    by_cases e : p.1 = k
    · rw [if_pos e, if_pos (h1.symm.trans e)]; exact ⟨h1, ry⟩
    · rw [if_neg e, if_neg (fun z => e (h1.trans z))]; exact ⟨h1, h2⟩
theorem KV.put {kvs : List (κ × V)} {vs : List (κ × Value)} (r : KV kvs vs) (k : κ) {y : V} {u : Value} (ry : RelV y u) : KV (putK kvs k y) (stored vs k u) := by
  unfold putK stored
  rw [r.any k]
  by_cases e : (vs.any fun kv => decide (kv.1 = k)) = true
  · rw [if_pos e, if_pos e]; exact r.repl k ry
  · rw [if_neg e, if_neg e]; exact Paired.snoc r ⟨rfl, ry⟩
theorem KV.drop {kvs : List (κ × V)} {vs : List (κ × Value)} (r : KV kvs vs) (k : κ) : KV (dropK kvs k) (without vs k) := by
  unfold KV at r ⊢
  unfold dropK without
  induction r with
  | nil => exact .nil
  | @cons p q ps qs h t ih =>
    obtain ⟨h1, h2⟩ := h
    rw [List.filter_cons, List.filter_cons]
    by_cases e : p.1 = k
    · have a : ¬ decide (p.1 ≠ k) = true := by simp [e]
      have b : ¬ decide (q.1 ≠ k) = true := by simp [h1.symm.trans e]
      rw [if_neg a, if_neg b]; exact ih
    · have e' : ¬ q.1 = k := fun z => e (h1.trans z)
      have a : decide (p.1 ≠ k) = true := by simp [e]
      have b : decide (q.1 ≠ k) = true := by simp [e']
      rw [if_pos a, if_pos b]; exact .cons ⟨h1, h2⟩ ih
theorem KV.length {kvs : List (κ × V)} {vs : List (κ × Value)} (r : KV kvs vs) : kvs.length = vs.length := Paired.length r
theorem dropK_le (kvs : List (κ × V)) (k : κ) : (dropK kvs k).length ≤ kvs.length := List.length_filter_le _ _
end


/-! ### a tracked dict, its keys ints and texts or tuples of these -/
theorem kV_is {P : Program} {w : World} {k : Key} {u : Value} (r : RelV (kV k) u) : (mixKind P w).is k u = true := by
  cases k with
  | inl i => obtain ⟨t, e⟩ := (show ∃ t, u = Value.int i t from r); subst e; exact mixKind_int P w i t
  | inr x => obtain ⟨t, e⟩ := (show ∃ t, u = Value.str x t from r); subst e; exact mixKind_str P w x t
theorem items_are {P : Program} {w : World} : ∀ {ks : List Key} {us : List Value}, Vals (ks.map kV) us → ItemsAre (mixKind P w) ks us
  | [], _, r => by rw [List.map_nil] at r; cases r; exact .nil
  | k :: ks, _, r => by
    rw [List.map_cons] at r
    cases r with
    | cons h t => exact .cons (kV_is h) (items_are t)

/-- raw entries of a dict with tuple keys -/
abbrev KT (H : Hp) : List (List Key × V) → List (List Key × Addr × Value) → Prop := Paired fun p q => p.1 = q.1 ∧ H q.2.1 = some (.tup (p.1.map kV)) ∧ RelV p.2 q.2.2
theorem KT.val {H : Hp} {kvs : List (List Key × V)} {xs : List (List Key × Addr × Value)} (r : KT H kvs xs) (k : List Key) : RelO (valV kvs k) ((atKey xs k).map (·.2)) := by
  induction r with
  | nil => exact True.intro
  | @cons p q ps qs h t ih =>
    obtain ⟨h1, _, h2⟩ := h
    by_cases e : p.1 = k
    · have e' : q.1 = k := h1.symm.trans e
      have b : atKey (q :: qs) k = some q.2 := by simp [atKey, List.find?_cons, e']
      rw [valV_pos e, b]; exact h2
    · have e' : ¬ q.1 = k := fun z => e (h1.trans z)
      have b : atKey (q :: qs) k = atKey qs k := by simp [atKey, List.find?_cons, e']
      rw [valV_neg e, b]; exact ih
theorem KT.repl {H : Hp} {kvs : List (List Key × V)} {xs : List (List Key × Addr × Value)} (r : KT H kvs xs) (k : List Key) {y : V} {u : Value} (ry : RelV y u) :
    KT H (kvs.map fun kv => if kv.1 = k then (kv.1, y) else kv) (xs.map (putAt k u)) := by
  induction r with
  | nil => exact .nil
  | @cons p q ps qs h t ih =>
    rw [List.map_cons, List.map_cons]
    refine .cons ?_ ih
    obtain ⟨h1, h2, h3⟩ := h
    unfold putAt
    by_cases e : p.1 = k
    · rw [if_pos e, if_pos (h1.symm.trans e)]; exact ⟨h1, h2, ry⟩
    · rw [if_neg e, if_neg (fun z => e (h1.trans z))]; exact ⟨h1, h2, h3⟩
theorem KT.put {H : Hp} {kvs : List (List Key × V)} {xs : List (List Key × Addr × Value)} (r : KT H kvs xs) (k : List Key) {b : Addr} {y : V} {u : Value} (hb : H b = some (.tup (k.map kV))) (ry : RelV y u) :
    KT H (putK kvs k y) (storedH xs k b u) := by
  have e : (kvs.any fun kv => decide (kv.1 = k)) = (atKey xs k).isSome := by
    rw [valV_any, (r.val k).isSome_eq, Option.isSome_map]
  unfold putK storedH
  rw [e]
  by_cases q : (atKey xs k).isSome = true
  · rw [if_pos q, if_pos q]; exact r.repl k ry
  · rw [if_neg q, if_neg q]; exact Paired.snoc r ⟨rfl, hb, ry⟩
theorem KT.keeps {H H' : Hp} {kvs : List (List Key × V)} {xs : List (List Key × Addr × Value)} (r : KT H kvs xs) (ht : ∀ b ys, H b = some (.tup ys) → H' b = some (.tup ys)) : KT H' kvs xs :=
  Paired.mapP r fun _ _ z => ⟨z.1, ht _ _ z.2.1, z.2.2⟩

section
variable {P : Program} {w : World} {H : Hp} {h : Heap} {a : Addr}
theorem rd_of {u : HO} (ok : HOk P w H h) (e : Rd H a u) : ObjOk P w H h a u := e.ok ok
theorem dk_rd {kvs : List (Key × V)} (ok : HOk P w H h) (e : Rd H a (.dK kvs)) : kvs.length ≤ sizeLine ∧ (a == sysModules) = false ∧ ∃ vs, KV kvs vs ∧ h.DictOf (mixKind P w) a vs :=
  show ObjOk P w H h a (.dK kvs) from rd_of ok e
theorem dk_of {kvs : List (Key × V)} (ok : HOk P w H h) (e : H a = some (.dK kvs)) : kvs.length ≤ sizeLine ∧ (a == sysModules) = false ∧ ∃ vs, KV kvs vs ∧ h.DictOf (mixKind P w) a vs := dk_rd ok (.inl e)
/-- a tracked tuple of ints and texts is a key -/
theorem key_of {ks : List Key} (ok : HOk P w H h) (e : H a = some (.tup (ks.map kV))) : (tupleKind (mixKind P w)).is h ks a := by
  obtain ⟨_, its, r, o, h1, h2, n, h3⟩ := (show ObjOk P w H h a (.tup (ks.map kV)) from ok a _ e)
  exact ⟨o, its.toArray, n, h1, h2, h3, by simpa using items_are r⟩
theorem dt_rd {kvs : List (List Key × V)} (ok : HOk P w H h) (e : Rd H a (.dT kvs)) : kvs.length ≤ sizeLine ∧ (a == sysModules) = false ∧
    ∃ xs, KT H kvs xs ∧ h.DictOfH (tupleKind (mixKind P w)) a xs := by
  obtain ⟨z, y, xs, r, o, es, ep, h1, h2, h3, h4, h5⟩ := (show ObjOk P w H h a (.dT kvs) from rd_of ok e)
  refine ⟨z, y, xs, r, o, es, ep, h1, h2, h3, h4, fun x hx => ?_, h5⟩
  have all : ∀ {l : List (List Key × V)} {m : List (List Key × Addr × Value)}, KT H l m → ∀ x ∈ m, (tupleKind (mixKind P w)).is h x.1 x.2.1 := by
    intro l m q
    induction q with
    | nil => intro x hx; exact nomatch hx
    | @cons p q ps qs hq t ih =>
      intro x hx
      rcases List.mem_cons.mp hx with e | hx
      · subst e
        exact key_of ok (by rw [← hq.1]; exact hq.2.1)
      · exact ih x hx
  exact all r x hx
theorem dt_of {kvs : List (List Key × V)} (ok : HOk P w H h) (e : H a = some (.dT kvs)) : kvs.length ≤ sizeLine ∧ (a == sysModules) = false ∧
    ∃ xs, KT H kvs xs ∧ h.DictOfH (tupleKind (mixKind P w)) a xs := dt_rd ok (.inl e)
end

/-- what the dict at a holds at the key y -/
def DGet (H : Hp) (a : Addr) (y : V) (r : Option V) : Prop :=
  (∃ kvs k, Rd H a (.dK kvs) ∧ y = kV k ∧ r = valV kvs k) ∨ ∃ kvs k b, Rd H a (.dT kvs) ∧ y = .ref b ∧ H b = some (.tup (k.map kV)) ∧ r = valV kvs k
/-- the heap behind a[y] = v -/
def DPut (H : Hp) (a : Addr) (y v : V) (H' : Hp) : Prop :=
  (∃ kvs k, H a = some (.dK kvs) ∧ y = kV k ∧ kvs.length < sizeLine ∧ H' = upd H a (.dK (putK kvs k v))) ∨
  ∃ kvs k b, H a = some (.dT kvs) ∧ y = .ref b ∧ H b = some (.tup (k.map kV)) ∧ kvs.length < sizeLine ∧ H' = upd H a (.dT (putK kvs k v))
theorem DGet.k {H : Hp} {a : Addr} {kvs : List (Key × V)} {k : Key} (e : H a = some (.dK kvs)) : DGet H a (kV k) (valV kvs k) := .inl ⟨kvs, k, .inl e, rfl, rfl⟩
theorem DPut.k {H : Hp} {a : Addr} {kvs : List (Key × V)} {k : Key} {v : V} (e : H a = some (.dK kvs)) (hl : kvs.length < sizeLine) : DPut H a (kV k) v (upd H a (.dK (putK kvs k v))) := .inl ⟨kvs, k, e, rfl, hl, rfl⟩


section
variable {X : Cx} {pins : List (Addr × Obj)} {σ : St} {H : Hp} {s : Shared} {a : Addr} {y v : V} {u r : Value} {o : Option V} {A : Around} {E : Value → Shared → Prop}

theorem Inv.big (I : Inv X pins σ H s) : sysModules < s.heap.objs.size := by
  have h : mainGlobals < s.heap.objs.size := (I.mod.glob.keeps I.bk).lt
  exact Nat.lt_trans (by decide) h

/-- d[y], there -/
theorem d_getItem {Q : Value → Shared → Prop} (hu : A.units + 1 < cLine) (I : Inv X pins σ H s) (g : DGet H a y (some v)) (ry : RelV y u) (h : ∀ w' s', Inv X pins σ H s' → RelV v w' → Q w' s') :
    wpAny (model X.prog X.w) A (getItem (.ref a) u) Q E s := by
  rcases g with ⟨kvs, k, e, ey, l⟩ | ⟨kvs, k, b, e, ey, eb, l⟩
  · subst ey
    obtain ⟨z, hd, vs, rel, dd⟩ := dk_rd I.hok e
    obtain ⟨w', hw, rw'⟩ := RelO.some_of (v := v) (o := valueAt vs k) (by rw [l]; exact rel.val k)
    exact wpAny_getItem_of (kV_is ry) dd.mapOf hw (h w' _ (I.tok _) rw')
  · subst ey
    cases (show u = Value.ref b from ry)
    obtain ⟨z, hd, xs, rel, dd⟩ := dt_rd I.hok e
    obtain ⟨w', hw, rw'⟩ := RelO.some_of (v := v) (o := (atKey xs k).map (·.2)) (by rw [l]; exact rel.val k)
    obtain ⟨p, hp, hp2⟩ := Option.map_eq_some_iff.mp hw
    refine wpAny_getItem_heap (tupleKind_room_in1 hu) (key_of I.hok eb) dd hp ?_
    rw [hp2]
    exact h w' _ (I.tok _) rw'
/-- y in d -/
theorem d_in {Q : Value → Shared → Prop} (hu : A.units + 1 < cLine) (I : Inv X pins σ H s) (g : DGet H a y o) (ry : RelV y u) (h : ∀ s', Inv X pins σ H s' → Q (.bool o.isSome) s') :
    wpAny (model X.prog X.w) A (compareOp .In u (.ref a)) Q E s := by
  rcases g with ⟨kvs, k, e, ey, l⟩ | ⟨kvs, k, b, e, ey, eb, l⟩
  · subst ey
    obtain ⟨z, hd, vs, rel, dd⟩ := dk_rd I.hok e
    refine wpAny_in_of (kV_is ry) hd dd.mapOf ?_
    rw [← (rel.val k).isSome_eq, ← l]
    exact h _ (I.tok _)
  · subst ey
    cases (show u = Value.ref b from ry)
    obtain ⟨z, hd, xs, rel, dd⟩ := dt_rd I.hok e
    refine wpAny_in_heap (tupleKind_room_in1 hu) (key_of I.hok eb) hd dd ?_
    have q := (rel.val k).isSome_eq
    rw [Option.isSome_map] at q
    rw [← q, ← l]
    exact h _ (I.tok _)
/-- a dict's object is replaced -/
theorem d_write {h' : Heap} {t' : Nat} {ob : HO} (I : Inv X pins σ H s) (mu : Mut (H a)) (hs : Heap.SameBut a s.heap h') (he : ∃ q, h'.get? a = some q) (new : ObjOk X.prog X.w (upd H a ob) h' a ob) :
    Inv X pins σ (upd H a ob) { s with heap := h', toks := t' } :=
  I.write (x := a) (e := a) mu (.inl rfl) (fun b q hb z => (hs.2 b hb).trans z) he new
theorem dk_new {P : Program} {w : World} {H' : Hp} {h' : Heap} {kvs : List (Key × V)} {vs : List (Key × Value)} (z : kvs.length ≤ sizeLine) (hd : (a == sysModules) = false) (rel : KV kvs vs) (dd : h'.DictOf (mixKind P w) a vs) :
    ObjOk P w H' h' a (.dK kvs) := ⟨z, hd, vs, rel, dd⟩
/-- d[y] = v -/
theorem d_setItem {H' : Hp} {Q : Unit → Shared → Prop} (hu : A.units + 1 < cLine) (I : Inv X pins σ H s) (g : DPut H a y v H') (ry : RelV y u) (rv : RelV v r) (h : ∀ s', Inv X pins σ H' s' → Q () s') :
    wpAny (model X.prog X.w) A (setItem (.ref a) u r) Q E s := by
  rcases g with ⟨kvs, k, e, ey, l, eH⟩ | ⟨kvs, k, b, e, ey, eb, l, eH⟩
  · subst ey eH
    obtain ⟨z, hd, vs, rel, dd⟩ := dk_of I.hok e
    have hz : vs.length ≤ sizeLine := by rw [← rel.length]; exact z
    have hl : (putK kvs k v).length ≤ sizeLine := by have := length_putK kvs k v; omega
    refine wpAny_setItem_pairs (hsz := hz) (kV_is ry) dd fun h' dd' hs => h _ ?_
    have he : ∃ q, h'.get? a = some q := let ⟨q, _, _, hq, _⟩ := dd'; ⟨q, hq⟩
    exact d_write I (by rw [e]; exact True.intro) hs he (dk_new hl hd (rel.put k rv) dd')
  · subst ey eH
    cases (show u = Value.ref b from ry)
    obtain ⟨z, hd, xs, rel, dd⟩ := dt_of I.hok e
    have hz : xs.length ≤ sizeLine := by rw [← Paired.length rel]; exact z
    have hl : (putK kvs k v).length ≤ sizeLine := by have := length_putK kvs k v; omega
    refine wpAny_setItem_heap (hsz := hz) (tupleKind_room_in1 hu) (key_of I.hok eb) dd fun h' dd' hs => h _ ?_
    obtain ⟨q, es, ep, hq, h2, h3, h4, _, h5⟩ := dd'
    refine d_write I (by rw [e]; exact True.intro) hs ⟨q, hq⟩ ⟨hl, hd, _, (rel.put k eb rv).keeps fun c ys ec => ?_, q, es, ep, hq, h2, h3, h4, h5⟩
    rw [upd_ne (ne_of ec e (fun z => nomatch z))]
    exact ec
end

section
variable {X : Cx} {pins : List (Addr × Obj)} {σ : St} {H : Hp} {s : Shared} {a : Addr} {kvs : List (Key × V)} {k : Key} {u : Value} {A : Around} {E : Value → Shared → Prop}
/-- d.pop(k[, x]), there -/
theorem d_pop {v : V} {more : List Value} {Q : Value → Shared → Prop} (I : Inv X pins σ H s) (e : H a = some (.dK kvs)) (ry : RelV (kV k) u) (l : valV kvs k = some v) (hm : more = [] ∨ ∃ x, more = [x])
    (h : ∀ w' s', Inv X pins σ (upd H a (.dK (dropK kvs k))) s' → RelV v w' → Q w' s') : wpAny (model X.prog X.w) A (call (.builtin "dict.pop") (.ref a :: u :: more)) Q E s := by
  obtain ⟨z, hd, vs, rel, dd⟩ := dk_of I.hok e
  obtain ⟨w', hw, rw'⟩ := RelO.some_of (v := v) (o := valueAt vs k) (by rw [← l]; exact rel.val k)
  have hp : (keyPart u).isSome = true := by
    cases k with
    | inl i => obtain ⟨t, q⟩ := (show ∃ t, u = Value.int i t from ry); subst q; rfl
    | inr x => obtain ⟨t, q⟩ := (show ∃ t, u = Value.str x t from ry); subst q; rfl
  have ha : argsOk "dict.pop" ⟨.ref a :: u :: more, []⟩ := by
    rcases hm with q | ⟨x, q⟩
    · subst q; exact PySem.F.args_dict_pop_2 _ _
    · subst q; exact PySem.F.args_dict_pop_3 _ _ _
  refine call_meetsIn PySem.F.slot_dict_pop dd.typeIs PySem.F.entry_dict_pop ha (meets_dict_pop_there (mixKind X.prog X.w) a (kV_is ry) more hm hp)
    ⟨vs, w', dd, by rw [← rel.length]; exact z, hw, fun h' dd' hs => h w' _ ?_ rw'⟩
  have he : ∃ q, h'.get? a = some q := let ⟨q, _, _, hq, _⟩ := dd'; ⟨q, hq⟩
  exact d_write I (by rw [e]; exact True.intro) hs he (dk_new (Nat.le_trans (dropK_le kvs k) z) hd (rel.drop k) dd')
/-- len(d) -/
theorem d_len {Q : Value → Shared → Prop} (I : Inv X pins σ H s) (e : Rd H a (.dK kvs)) (h : ∀ t s', Inv X pins σ H s' → Q (.int kvs.length t) s') : wpAny (model X.prog X.w) A (call (.builtin "len") [.ref a]) Q E s := by
  obtain ⟨z, hd, vs, rel, dd⟩ := dk_rd I.hok e
  refine call_len_dict hd dd (by rw [← rel.length]; rw [sizeLine_eq] at z; omega) ?_
  rw [← rel.length]
  exact h _ _ (I.tok _)
end


/-! ### readings and rules -/
/-- the element of a subscription, not a slice -/
def NoSl (i : Expr) : Prop := ∀ ov iv, subscripted i false ov iv = operate [ov, iv] (getItem ov iv)
theorem subD_of {prog : Program} {w : World} {A : Around} {E : Value → Shared → Prop} {s : Shared} {env : Env} {value slice : Expr} {pos : Pos} {T id : String} {Q : Value → Shared → Prop}
    (hl : typeLookup (.type T) "__getitem__" = pure (some (.builtin id))) (hs : NoSl slice)
    (h : wpAny (model prog w) A (eval value env) (fun o s₁ => wpAny (model prog w) A (eval slice env) (fun i s₂ => s₂.TypeIs o T ∧ wpAny (model prog w) A (getItem o i) Q E s₂) E s₁) E s) :
    wpAny (model prog w) A (eval (.Subscript value slice pos) env) Q E s := by
  refine Subscript_ (wpAny_mono h (fun o s₁ h₁ => wpAny_mono h₁ (fun i s₂ h₂ => ?_) fun _ _ x => x) fun _ _ x => x)
  obtain ⟨hT, h₂⟩ := h₂
  unfold subscriptTail
  refine wpAny_bind ?_
  rw [getitemInPython_of_ne hT.not_modules]
  refine wpAny_bind (wpAny_specialOf hT hl ?_)
  have fin : wpAny (model prog w) A (subscripted slice false o i) (fun r s₃ => wpAny (model prog w) A (letTemporaryGo value o r >>= fun _ => pure r) Q E s₃) E s₂ := by
    rw [hs o i]
    exact wpAny_operating (wpAny_mono h₂ (fun r s₃ h₃ => wpAny_bind (wpAny_letTemporaryGo (wpAny_pure h₃))) fun _ _ x => x)
  first
    | exact wpAny_pure (wpAny_bind fin)
    | exact wpAny_bind (wpAny_pure (wpAny_bind fin))
    | exact wpAny_bind fin

theorem dict_typeIs {X : Cx} {pins : List (Addr × Obj)} {σ : St} {H : Hp} {s : Shared} {a : Addr} {y : V} {o : Option V} (I : Inv X pins σ H s) (g : DGet H a y o) : s.TypeIs (.ref a) "dict" := by
  rcases g with ⟨kvs, k, e, _, _⟩ | ⟨kvs, k, b, e, _, _, _⟩
  · obtain ⟨_, _, vs, _, dd⟩ := dk_rd I.hok e
    exact dd.typeIs
  · obtain ⟨_, _, xs, _, dd⟩ := dt_rd I.hok e
    exact dd.typeIs

/-- d[y] -/
def tDGet (td ty : TE) : TE := fun σ H Q => td σ H fun x H1 => ty σ H1 fun y H2 => ∃ a v, x = .ref a ∧ DGet H2 a y (some v) ∧ Q v H2
/-- y in d, y not in d -/
def tDIn (ty td : TE) : TE := fun σ H Q => ty σ H fun y H1 => td σ H1 fun x H2 => ∃ a o, x = .ref a ∧ DGet H2 a y o ∧ Q (.bl o.isSome) H2
/-- d[y] = v -/
def sDPut (td ty tv : TE) : TS := fun D σ H => tv σ H fun v H1 => td σ H1 fun x H2 => ty σ H2 fun y H3 => ∃ a H4, x = .ref a ∧ DPut H3 a y v H4 ∧ D.nx σ H4

section
variable {X : Cx} {o i e value : Expr} {pos pos' tpos : Pos} {td ty tv : TE}
theorem pe_dget (hu : X.A.units + 1 < cLine) (ho : PE X o td) (hi : PE X i ty) (hs : NoSl i) : PE X (.Subscript o i pos) (tDGet td ty) := by
  intro pins s σ H Q I h
  refine subD_of PySem.F.slot_dict_getitem.lookup hs (thn (ho pins s σ H _ I h) fun u s1 ⟨x, H1, I1, rx, q1⟩ => thn (hi pins s1 σ H1 _ I1 q1) fun iv s2 ⟨y, H2, I2, ry, a, v, ex, g, q2⟩ => ?_)
  subst ex
  obtain rfl : u = Value.ref a := rx
  exact ⟨dict_typeIs I2 g, d_getItem hu I2 g ry fun w' s3 I3 rw' => ⟨v, H2, I3, rw', q2⟩⟩
theorem pc_din (hu : X.A.units + 1 < cLine) (hi : PE X i ty) (ho : PE X o td) : PC X .In i o (tDIn ty td) := by
  intro pins s σ H Q I h
  refine thn (hi pins s σ H _ I h) fun iv s1 ⟨y, H1, I1, ry, q1⟩ => thn (ho pins s1 σ H1 _ I1 q1) fun u s2 ⟨x, H2, I2, rx, a, ov, ex, g, q2⟩ => ?_
  subst ex
  obtain rfl : u = Value.ref a := rx
  exact d_in hu I2 g ry fun s3 I3 => ⟨.bl ov.isSome, H2, I3, rfl, q2⟩
theorem ps_dput (hu : X.A.units + 1 < cLine) (ho : PE X o td) (hi : PE X i ty) (hv : PE X value tv) (hs : swapsWith value (some (.Subscript o i pos')) pos.line X.env = pure false) :
    PS X (.Assign [.Subscript o i pos'] value pos) (sDPut td ty tv) := by
  intro pins s σ H D I h
  refine wpAny_Assign_Subscript (thn (hv pins s σ H _ I h) fun r s1 ⟨v, H1, I1, rv, q1⟩ => thn (ho pins s1 σ H1 _ I1 q1) fun u s2 ⟨x, H2, I2, rx, q2⟩ => thn (hi pins s2 σ H2 _ I2 q2) fun iv s3 ⟨y, H3, I3, ry, a, H4, ex, g, q3⟩ => ?_) hs
  subst ex
  obtain rfl : u = Value.ref a := rx
  exact d_setItem hu I3 g ry rv fun s4 I4 => ⟨σ, H4, I4, q3⟩
end


/-! ### displays -/
theorem dk_empty {P : Program} {w : World} {H : Hp} (h : Heap) (hb : sysModules < h.objs.size) : ObjOk P w H (h.push { cls := .type "dict", data := .dict #[] }) h.objs.size (.dK []) :=
  ⟨Nat.zero_le _, beq_eq_false_iff_ne.mpr (Ne.symm (Nat.ne_of_lt hb)), [], .nil, Heap.DictOf.new h⟩
/-- {}, to be a dict of the kind that is wanted -/
def tDNewK : TE := fun _ H Q => ∀ p, H p = none → Q (.ref p) (upd H p (.dK []))
section
variable {X : Cx} {pos : Pos}
theorem pe_dnewK : PE X (.Dict [] [] pos) tDNewK := fun pins s σ H Q I h =>
  wpAny_Dict_empty ⟨.ref s.heap.objs.size, _, I.laid (a := s.heap.objs.size) (o := .dK []) (t' := s.toks) (fun _ _ q => Heap.get?_push_of_some _ q) (Nat.le_refl _) (dk_empty s.heap I.big), rfl, h _ (I.hok.fresh (Nat.le_refl _))⟩
end


def mergeK (kvs more : List (Key × V)) : List (Key × V) := more.foldl (fun acc kv => putK acc kv.1 kv.2) kvs
theorem KV.merge : ∀ {more : List (Key × V)} {rs : List (Key × Value)} {kvs : List (Key × V)} {vs : List (Key × Value)}, KV more rs → KV kvs vs → KV (mergeK kvs more) (merged vs rs) := by
  intro more rs kvs vs r
  unfold KV at r
  induction r generalizing kvs vs with
  | nil => intro q; exact q
  | @cons p q ps qs h t ih =>
    intro r0
    have e : KV (putK kvs p.1 p.2) (stored vs q.1 q.2) := by
      have := r0.put p.1 h.2
      rw [← h.1]; exact this
    exact ih e


/-! ### methods -/
/-- a method call o.m(e) of a built-in, with one argument: what must be seen of the text -/
structure M1 (X : Cx) (o : Expr) (m : Str) (apos : Pos) (e : Expr) (cpos : Pos) : Prop where
  base : attributeBase o m X.env (eval o X.env) = eval o X.env
  few : ((backTo cpos (starEach [e] X.env)).all (fun x => !x.1) && (backToKw cpos (keywordEach [] X.env)).all (fun x => x.1.isSome)
    && decide (([e] : List Expr).length + ([] : List Keyword).length + (if ([] : List Keyword).isEmpty then 0 else 1) < 30)) = true
  line : (apos.endLine == cpos.line) = true
  trees : backTo cpos (starEach [e] X.env) = [(false, eval e X.env)]
structure M2 (X : Cx) (o : Expr) (m : Str) (apos : Pos) (e f : Expr) (cpos : Pos) : Prop where
  base : attributeBase o m X.env (eval o X.env) = eval o X.env
  few : ((backTo cpos (starEach [e, f] X.env)).all (fun x => !x.1) && (backToKw cpos (keywordEach [] X.env)).all (fun x => x.1.isSome)
    && decide (([e, f] : List Expr).length + ([] : List Keyword).length + (if ([] : List Keyword).isEmpty then 0 else 1) < 30)) = true
  line : (apos.endLine == cpos.line) = true
  trees : backTo cpos (starEach [e, f] X.env) = [(false, eval e X.env), (false, eval f X.env)]

/-- a is a dict, whatever its keys -/
def IsD (H : Hp) (a : Addr) : Prop := (∃ kvs, Rd H a (.dK kvs)) ∨ ∃ kvs, Rd H a (.dT kvs)
theorem isD_at {X : Cx} {pins : List (Addr × Obj)} {σ : St} {H : Hp} {s : Shared} {a : Addr} (I : Inv X pins σ H s) (d : IsD H a) :
    s.TypeIs (.ref a) "dict" ∧ (∀ b, Value.ref a = .ref b → ∃ ob, s.heap.get? b = some ob ∧ ob.dict = none) ∧ (a == sysModules) = false := by
  rcases d with ⟨kvs, e⟩ | ⟨kvs, e⟩
  · obtain ⟨_, hd, vs, _, dd⟩ := dk_rd I.hok e
    refine ⟨dd.typeIs, fun b q => ?_, hd⟩
    cases q
    obtain ⟨ob, _, _, h1, h2, _⟩ := dd
    exact ⟨ob, h1, h2.2.1⟩
  · obtain ⟨_, hd, xs, _, dd⟩ := dt_rd I.hok e
    refine ⟨dd.typeIs, fun b q => ?_, hd⟩
    cases q
    obtain ⟨ob, _, _, h1, h2, _⟩ := dd
    exact ⟨ob, h1, h2.2.1⟩

section
variable {X : Cx} {pins : List (Addr × Obj)} {σ : St} {H : Hp} {s : Shared} {a : Addr} {y d : V} {u r : Value} {o : Option V} {A : Around} {E : Value → Shared → Prop}
/-- d.get(y) -/
theorem d_get1 {Q : Value → Shared → Prop} (hu : A.units + 1 < cLine) (I : Inv X pins σ H s) (g : DGet H a y o) (ry : RelV y u) (h : ∀ w' s', Inv X pins σ H s' → RelV (o.getD .non) w' → Q w' s') :
    wpAny (model X.prog X.w) A (call (.builtin "dict.get") [.ref a, u]) Q E s := by
  rcases g with ⟨kvs, k, e, ey, l⟩ | ⟨kvs, k, b, e, ey, eb, l⟩
  · subst ey
    obtain ⟨z, hd, vs, rel, dd⟩ := dk_rd I.hok e
    refine call_meetsIn PySem.F.slot_dict_get dd.typeIs PySem.F.entry_dict_get (PySem.F.args_dict_get_2 _ _) (meets_dict_get (mixKind X.prog X.w) a (kV_is ry) hd) ⟨_, dd.mapOf, h _ _ (I.tok _) ?_⟩
    rw [l]
    exact (rel.val k).getD rfl
  · subst ey
    cases (show u = Value.ref b from ry)
    obtain ⟨z, hd, xs, rel, dd⟩ := dt_rd I.hok e
    refine call_meetsIn PySem.F.slot_dict_get dd.typeIs PySem.F.entry_dict_get (PySem.F.args_dict_get_2 _ _) (meetsH_dict_get (tupleKind (mixKind X.prog X.w)) a b hd) ⟨tupleKind_room_in1 hu, k, xs, key_of I.hok eb, dd, h _ _ (I.tok _) ?_⟩
    rw [l]
    exact (rel.val k).getD rfl
/-- d.get(y, x) -/
theorem d_get2 {Q : Value → Shared → Prop} (hu : A.units + 1 < cLine) (I : Inv X pins σ H s) (g : DGet H a y o) (ry : RelV y u) (rd : RelV d r) (h : ∀ w' s', Inv X pins σ H s' → RelV (o.getD d) w' → Q w' s') :
    wpAny (model X.prog X.w) A (call (.builtin "dict.get") [.ref a, u, r]) Q E s := by
  rcases g with ⟨kvs, k, e, ey, l⟩ | ⟨kvs, k, b, e, ey, eb, l⟩
  · subst ey
    obtain ⟨z, hd, vs, rel, dd⟩ := dk_rd I.hok e
    refine call_meetsIn PySem.F.slot_dict_get dd.typeIs PySem.F.entry_dict_get (PySem.F.args_dict_get_3 _ _ _) (meets_dict_get_default (mixKind X.prog X.w) a (kV_is ry) hd r) ⟨_, dd.mapOf, h _ _ (I.tok _) ?_⟩
    rw [l]
    exact (rel.val k).getD rd
  · subst ey
    cases (show u = Value.ref b from ry)
    obtain ⟨z, hd, xs, rel, dd⟩ := dt_rd I.hok e
    refine call_meetsIn PySem.F.slot_dict_get dd.typeIs PySem.F.entry_dict_get (PySem.F.args_dict_get_3 _ _ _) (meetsH_dict_get_default (tupleKind (mixKind X.prog X.w)) a b hd r) ⟨tupleKind_room_in1 hu, k, xs, key_of I.hok eb, dd, h _ _ (I.tok _) ?_⟩
    rw [l]
    exact (rel.val k).getD rd
end

def tDGet1 (td ty : TE) : TE := fun σ H Q => td σ H fun x H1 => ∃ a, x = .ref a ∧ IsD H1 a ∧ ty σ H1 fun y H2 => ∃ o, DGet H2 a y o ∧ Q (o.getD .non) H2
def tDGet2 (td ty tx : TE) : TE := fun σ H Q => td σ H fun x H1 => ∃ a, x = .ref a ∧ IsD H1 a ∧ ty σ H1 fun y H2 => tx σ H2 fun z H3 => ∃ o, DGet H3 a y o ∧ Q (o.getD z) H3
/-- d.pop(k): there; d.pop(k, x): there or not -/
def tDPop1 (td ty : TE) : TE := fun σ H Q => td σ H fun x H1 => ∃ a, x = .ref a ∧ IsD H1 a ∧ ty σ H1 fun y H2 => ∃ kvs k v, H2 a = some (.dK kvs) ∧ y = kV k ∧ valV kvs k = some v ∧ Q v (upd H2 a (.dK (dropK kvs k)))
section
variable {X : Cx} {o e f : Expr} {apos cpos : Pos} {td ty tx : TE}
theorem pe_dget1 (hu : X.A.units + 1 < cLine) (ho : PE X o td) (he : PE X e ty) (m : M1 X o "get" apos e cpos) : PE X (.Call (.Attribute o "get" apos) [e] [] cpos) (tDGet1 td ty) := by
  intro pins s σ H Q I h
  refine wpAny_Call_method m.base m.few m.line PySem.F.plainAttrs_dict PySem.F.slot_dict_get PySem.F.type_dict_get (thn (ho pins s σ H _ I h) fun u s1 ⟨x, H1, I1, rx, a, ex, d, q1⟩ => ?_)
  subst ex
  obtain rfl : u = Value.ref a := rx
  obtain ⟨t1, t2, _⟩ := isD_at I1 d
  refine ⟨t1, t2, ?_⟩
  rw [m.trees]
  refine Calls.callWith_builtin rfl (Calls.evalArgs_plain (Calls.spliced_cons (thn (he pins s1 σ H1 _ I1 q1) fun iv s2 ⟨y, H2, I2, ry, ov, g, q2⟩ => Calls.spliced_nil ?_)))
  exact d_get1 hu I2 g ry fun w' s3 I3 rw' => ⟨_, H2, I3, rw', q2⟩
theorem pe_dget2 (hu : X.A.units + 1 < cLine) (ho : PE X o td) (he : PE X e ty) (hf : PE X f tx) (m : M2 X o "get" apos e f cpos) : PE X (.Call (.Attribute o "get" apos) [e, f] [] cpos) (tDGet2 td ty tx) := by
  intro pins s σ H Q I h
  refine wpAny_Call_method m.base m.few m.line PySem.F.plainAttrs_dict PySem.F.slot_dict_get PySem.F.type_dict_get (thn (ho pins s σ H _ I h) fun u s1 ⟨x, H1, I1, rx, a, ex, d, q1⟩ => ?_)
  subst ex
  obtain rfl : u = Value.ref a := rx
  obtain ⟨t1, t2, _⟩ := isD_at I1 d
  refine ⟨t1, t2, ?_⟩
  rw [m.trees]
  refine Calls.callWith_builtin rfl (Calls.evalArgs_plain (Calls.spliced_cons (thn (he pins s1 σ H1 _ I1 q1) fun iv s2 ⟨y, H2, I2, ry, q2⟩ =>
    Calls.spliced_cons (thn (hf pins s2 σ H2 _ I2 q2) fun fv s3 ⟨z, H3, I3, rz, ov, g, q3⟩ => Calls.spliced_nil ?_))))
  exact d_get2 hu I3 g ry rz fun w' s4 I4 rw' => ⟨_, H3, I4, rw', q3⟩
theorem pe_dpop1 (ho : PE X o td) (he : PE X e ty) (m : M1 X o "pop" apos e cpos) : PE X (.Call (.Attribute o "pop" apos) [e] [] cpos) (tDPop1 td ty) := by
  intro pins s σ H Q I h
  refine wpAny_Call_method m.base m.few m.line PySem.F.plainAttrs_dict PySem.F.slot_dict_pop PySem.F.type_dict_pop (thn (ho pins s σ H _ I h) fun u s1 ⟨x, H1, I1, rx, a, ex, d, q1⟩ => ?_)
  subst ex
  obtain rfl : u = Value.ref a := rx
  obtain ⟨t1, t2, _⟩ := isD_at I1 d
  refine ⟨t1, t2, ?_⟩
  rw [m.trees]
  refine Calls.callWith_builtin rfl (Calls.evalArgs_plain (Calls.spliced_cons (thn (he pins s1 σ H1 _ I1 q1) fun iv s2 ⟨y, H2, I2, ry, kvs, k, v, ea, ey, l, q2⟩ => Calls.spliced_nil ?_)))
  subst ey
  exact d_pop I2 ea ry l (.inl rfl) fun w' s3 I3 rw' => ⟨v, _, I3, rw', q2⟩
end

/-! ### dict(d): a copy -/
section
variable {X : Cx} {pins : List (Addr × Obj)} {σ : St} {H : Hp} {s : Shared} {a : Addr} {kvs : List (Key × V)} {A : Around} {E : Value → Shared → Prop}
end


section
variable {X : Cx} {pins : List (Addr × Obj)} {σ : St} {H : Hp} {s : Shared} {a : Addr} {y : V} {u : Value} {A : Around} {E : Value → Shared → Prop}
end
end L2

namespace Att
open PySem PySem.W PySem.Calls PyProof.Rows

/-! ### the script -/
theorem ints_of_wellAll {P : Params} {h : Heap} : ∀ (ns : List Int) (vs : List Value), WellAll P h vs (ns.map WData.int) → IntsAre vs ns := by
  intro ns
  induction ns with
  | nil =>
    intro vs w
    rw [List.map_nil] at w
    cases w
    exact .nil
  | cons n ns ih =>
    intro vs w
    rw [List.map_cons] at w
    cases w with
    | cons a b =>
      cases a
      exact .cons _ _ (ih _ b)

theorem script_of {l : OpenLaw} {n : Nat} (hn : l.most = some n) {P : Params} {h : Heap} {args : List WData} {vals : List Value}
    (hpre : l.row.toRowW.claim.pre args = true) (hwl : WellAll P h vals args) :
    ∃ a vs ns, vals = [Value.ref a] ∧ args = [WData.list (ns.map WData.int)] ∧ h.get? a = some { cls := .type "list", data := .seq vs.toArray } ∧ IntsAre vs ns ∧ ns.length ≤ n := by
  have hsh : WShape.hasAll [] args [.list .int] = true := (pre_splitW hpre).1
  have hc : l.pre.holds [] { args := args } = true := (pre_splitW hpre).2
  obtain ⟨d, r, rfl, h1, h2⟩ := hasAllW_cons hsh
  obtain rfl := hasAllW_nil h2
  obtain ⟨xs, rfl, h3⟩ := hasW_list h1
  obtain ⟨ns, rfl⟩ := items_int h3
  have hlen : ns.length ≤ n := by
    unfold OpenLaw.pre at hc
    have h4 : (WTm.not (.lt (.lit (.int (n : Int))) (.len (.arg 0)))).holds [] { args := [.list (ns.map .int)] } = true := by
      have h4 := (holds_andW hc).1
      rw [hn] at h4
      exact h4
    have h5 := condW_of h4 (w_not (w_lt w_lit (w_len_list (w_arg rfl))))
    rw [List.length_map] at h5
    refine Nat.le_of_not_lt fun q => ?_
    have q' : (n : Int) < ((ns.length : Nat) : Int) := by omega
    first
      | (rw [decide_eq_true q'] at h5; exact absurd h5 (by decide))
      | (simp at h5; omega)
  cases hwl with
  | cons w1 w2 =>
    cases w2
    cases w1 with
    | list ho hall => exact ⟨_, _, ns, rfl, rfl, ho, ints_of_wellAll ns _ hall, hlen⟩

theorem post_true (l : OpenLaw) (args : List WData) : l.row.toRowW.claim.post args (.bool true) args = true :=
  postW_of (r := l.row.toRowW) (X := (true == true))
    (show WShape.has [] (.bool true) .bool = true by first | rfl | decide | simp [WShape.has, WShape.arms, WShape.armsAll])
    (show (WTm.eq .res (.lit (.bool true))).value [] { args := args, res := some (.bool true), after := args } = some (.bool (true == true)) from w_eq_bool (w_res rfl) w_lit) rfl

/-! ### the attachment: holds_open's last premise (the goal 'hc' behind k_head) from a wpAny of the law's body -/

/-- the same from a codeAny of the CALL (for a layer whose function contracts speak of calls) -/
theorem attach_call {l : OpenLaw} {n : Nat} {q : Program} {loose : List Str} {XP : (Str → Option Value) → Heap → Prop} {YP : World → Heap → Prop} {d : DefRec}
    (hn : l.most = some n) (hdf : d.params.defaults = [])
    (call : ∀ (w : World) (s₀ s₁ : Shared) (mg mb : Str → Option Value) (fa : Addr) (o : Obj) (pm cd doc : Value) (a : Addr) (vs : List Value) (ns : List Int),
      Ground q loose [] XP w s₀ mg mb s₁.heap → YP w s₁.heap →
      s₁.heap.get? fa = some o → o.data = .func (docDef d.name d.params d.body d.scope pm cd doc) → s₁.heap.CodeRec cd d.name → mg d.name = some (.ref fa) →
      s₁.heap.get? a = some { cls := .type "list", data := .seq vs.toArray } → IntsAre vs ns → ns.length ≤ n → s₁.gens = #[] →
      codeAny (model l.prog w) callerA (.call (.ref fa) ⟨[.ref a], []⟩) (fun r s' => r = .ok (.ret (.bool true)) ∧ OldK s₁.heap s'.heap ∧ s'.os = s₁.os ∧ AllBare s'.gens) s₁) :
    WalkO q loose XP YP l.row.toRowW d [] (fun f vs => PySem.call f vs) := by
  intro w s₀ s₁ mg mb G Y fa o pm cd doc dV kV ho hd hcd hD hmg hg args vals as hpre hlay hrd hwl hlo
  obtain rfl : dV = .none := Dflts.none hD hdf
  obtain rfl : kV = .none := Dflts.noKw hD
  obtain ⟨a, vs, ns, rfl, rfl, hobj, hints, hlen⟩ := script_of hn hpre hwl
  refine enter_call (codeAny_mono (call w s₀ s₁ mg mb fa o pm cd doc a vs ns G Y ho (fd_plain hd) hcd hmg hobj hints hlen hg) fun r s' hq => ?_)
  obtain ⟨rfl, h2, h3, h4⟩ := hq
  exact ⟨.inl ⟨.bool true, .bool true, [], rfl, fun _ => rfl, .bool true, post_true l _, fun _ => ⟨List.Pairwise.nil, fun _ hm => (nomatch hm)⟩⟩, h2, h3, h4⟩


/-! ### rules over ANY heap (no ledger) from facts about the written part K: the library's own take a ledger (News) for what they write -/
section
variable {prog : Program} {w : World} {A : Around} {E : Value → Shared → Prop} {s : Shared} {K : Frag}





/-! the whole heap as the ledger: makes every rule that writes through a ledger a rule over any heap -/

end
end Att

namespace L2
open PySem PySem.Spec PyProof.Rows

theorem vals_ints : ∀ {vs : List Value} {ns : List Int}, IntsAre vs ns → Vals (ns.map V.int) vs
  | _, _, .nil => .nil
  | _, _, .cons n t h => .cons ⟨t, rfl⟩ (vals_ints h)

/-- nothing is tracked but the script, known to the object (or it is an object of the module) -/
def Only (H : Hp) : Prop := ∀ b, H b = none ∨ ∃ o xs, H b = some (.frz o (.lst xs))

/-- THE HEAD: the law's promise, at the heap behind the top. F, the promise of the law's def, may use that base is part of the heap (so K.In base, base.Ns mainGlobals mg stand in Mod) -/
theorem law_call {P : Program} {w : World} {K : PySem.W.Frag} {mg mb : Str → Option Value} {CX : CXT} {k : Nat} {fa a : Addr} {fd : FuncData} {x : Str} {sp : Sp} {s₁ : Shared} {vs : List Value} {ns : List Int}
    (KX : K.In s₁.heap) (hns : s₁.heap.Ns mainGlobals mg) (hb : s₁.heap.Ns builtinsNs mb) (hbb : ∀ x : Str, x ≠ "__name__" → mb x = bootBuiltins x) (hlim : s₁.heap.NoLimit) (hg : s₁.gens = #[])
    (ha : s₁.heap.get? a = some { cls := .type "list", data := .seq vs.toArray }) (hi : IntsAre vs ns) (hl : ns.length ≤ sizeLine) (hr : Room k callerA)
    (F : ∀ base : Heap, K.In base → base.Ns mainGlobals mg → FnOk P w K mg base CX k fa fd [x] sp) (hbind : ∀ (s : Shared) (u : Value), BindsTo s fd ⟨[u], []⟩ [(x, u)])
    (hsp : ∀ H : Hp, Only H → SqL K H a (ns.map V.int) → sp [.ref a] H (fun v _ => v = .bl true) fun _ _ _ => False)
    (hCX : ∀ H e s', CX [] H s₁ (fun _ _ _ => False) e s' → False) :
    codeAny (model P w) callerA (.call (.ref fa) ⟨[.ref a], []⟩) (fun r s' => r = .ok (.ret (.bool true)) ∧ OldK s₁.heap s'.heap ∧ s'.os = s₁.os ∧ AllBare s'.gens) s₁ := by
  have rv := vals_ints hi
  have lenV := hi.length
  -- from an abstract heap in which nothing but the script may be tracked
  have core : ∀ H : Hp, Only H → SqL K H a (ns.map V.int) → HOk P w H s₁.heap → (∀ b, H b ≠ none → b = a) → (H a ≠ none → K.lookup a = none) →
      codeAny (model P w) callerA (.call (.ref fa) ⟨[.ref a], []⟩) (fun r s' => r = .ok (.ret (.bool true)) ∧ OldK s₁.heap s'.heap ∧ s'.os = s₁.os ∧ AllBare s'.gens) s₁ := by
    intro H hO hS hok hA hK
    have base_of : ∀ {b : Addr} {o : Obj}, s₁.heap.get? b = some o → H b = none → (hidT s₁.heap H).get? b = some o := fun e n => hidT_get e n
    have noA : ∀ {b : Addr} {o : Obj} {es : Array DictEntry} {ep : Nat}, s₁.heap.get? b = some o → o.data = .dict es ep → H b = none := fun {b o es ep} e d => by
      cases q : H b with
      | none => rfl
      | some u =>
        have e' : b = a := hA b (by rw [q]; simp)
        subst e'
        rw [ha] at e; cases e
        have d' : Data.seq vs.toArray _ = Data.dict es ep := d
        cases d'
    have nsK : ∀ {b : Addr} {m : Str → Option Value}, s₁.heap.Ns b m → (hidT s₁.heap H).Ns b m := fun {b m} ⟨o, es, ep, e, d, r⟩ => ⟨o, es, ep, base_of e (noA e d), d, r⟩
    have hKb : K.In (hidT s₁.heap H) := fun b o e => base_of (KX b o e) (by
      cases q : H b with
      | none => rfl
      | some u =>
        have e' : b = a := hA b (by rw [q]; simp)
        subst e'
        rw [hK (by rw [q]; simp)] at e; cases e)
    have hM : Mod K mg (hidT s₁.heap H) := ⟨hKb, nsK hns, ⟨mb, nsK hb, hbb⟩, let ⟨mc, h1, h2⟩ := hlim; ⟨mc, nsK h1, h2⟩⟩
    have e0 : Env0 P w K mg (hidT s₁.heap H) callerA [] s₁ H := ⟨rfl, hM, fun b o e => of_hidT e, Nat.le_of_eq (hidT_size _ _), trivial, fun b hb => absurd (show b ∈ ([] : List Addr) from hb) (by simp), hok, .of_eq hg⟩
    refine codeAny_mono ((F _ hKb (nsK hns)).run callerA [] s₁ H ⟨[.ref a], []⟩ [.ref a] [.ref a] _ _ hr e0 (hbind s₁ (.ref a)) (.cons rfl .nil) (hsp H hO hS)) fun r s' h => ?_
    cases r with
    | error e => exact (hCX H e s' h).elim
    | ok fl =>
      cases fl with
      | next => exact False.elim h
      | brk => exact False.elim h
      | cont => exact False.elim h
      | ret u =>
        obtain ⟨v, H', os, bare, un, hok', r', q⟩ := h
        have q' : v = .bl true := q
        subst q'
        obtain rfl : u = Value.bool true := r'
        refine ⟨rfl, OldK.of_keep fun b o e => ?_, os, bare⟩
        cases q : H b with
        | none => exact un.keep b o e q (by intro z; exact absurd (show b ∈ ([] : List Addr) from z) (by simp)) (by simp)
        | some u =>
          rcases hO b with z | ⟨ob, xs, z⟩
          · rw [q] at z; cases z
          · have z2 := un.frzs b ob _ z
            obtain ⟨e1, _⟩ := hok b _ z
            obtain ⟨e2, _⟩ := hok' b _ z2
            rw [e] at e1; cases e1
            exact e2
  cases hk : K.lookup a with
  | some o =>
    -- the script is one of the module's own objects
    have e := KX a o hk
    rw [ha] at e
    cases e
    refine core (fun _ => none) (fun _ => .inl rfl) (.inr ⟨_, vs.toArray, _, hk, rfl, rfl, rfl, by rw [List.size_toArray, lenV]; exact hl, by simpa using rv⟩) (fun b u z => by have z' : (none : Option HO) = some u := z; cases z') (fun b z => absurd rfl z) fun z => absurd rfl z
  | none =>
    refine core (fun b => if b = a then some (.frz { cls := .type "list", data := .seq vs.toArray } (.lst (ns.map V.int))) else none) (fun b => ?_) (.inl (.inr ⟨{ cls := .type "list", data := .seq vs.toArray }, if_pos rfl⟩)) (fun b u z => ?_) (fun b z => ?_) fun _ => hk
    · by_cases hb : b = a
      · exact .inr ⟨_, _, if_pos hb⟩
      · exact .inl (if_neg hb)
    · by_cases hb : b = a
      · have z' := (if_pos hb).symm.trans z
        cases z'
        subst hb
        exact ⟨ha, by rw [List.length_map]; exact hl, vs, _, rv, ha⟩
      · have z' := (if_neg hb).symm.trans z
        cases z'
    · by_cases hb : b = a
      · exact hb
      · exact absurd (if_neg hb) z
end L2

namespace L2
open PySem PySem.Spec PyProof.Rows


/-- the goal that k_head leaves (case hc), from the law's promise. F gives the function object fd (K's own) once, then the promise over every base -/
theorem walk_of {l : PySem.W.OpenLaw} {n k : Nat} {q : Program} {loose : List Str} {XP : (Str → Option Value) → Heap → Prop} {YP : World → Heap → Prop} {d : DefRec} {K : Params → PySem.W.Frag} {CX : World → CXT} {sp : World → Sp} {x : Str}
    (hn : l.most = some n) (hn2 : n ≤ sizeLine) (hdf : d.params.defaults = []) (hr : Room k callerA)
    (hY : ∀ (w : World) (h : Heap), YP w h → (K w.params).In h)
    (F : ∀ (w : World) (mg : Str → Option Value) (fa : Addr) (h : Heap), (K w.params).In h → h.Ns mainGlobals mg → mg d.name = some (.ref fa) →
      ∃ fd : FuncData, (∀ (s : Shared) (u : Value), BindsTo s fd ⟨[u], []⟩ [(x, u)]) ∧
        ∀ base : Heap, (K w.params).In base → base.Ns mainGlobals mg → FnOk l.prog w (K w.params) mg base (CX w) k fa fd [x] (sp w))
    (hsp : ∀ (w : World) (H : Hp) (a : Addr) (ns : List Int), ns.length ≤ n → Only H → SqL (K w.params) H a (ns.map V.int) → sp w [.ref a] H (fun v _ => v = .bl true) fun _ _ _ => False)
    (hCX : ∀ (w : World) (H : Hp) (s : Shared) (e : Value) (s' : Shared), CX w [] H s (fun _ _ _ => False) e s' → False) :
    PySem.W.WalkO q loose XP YP l.row.toRowW d [] (fun f vs => PySem.call f vs) := by
  refine Att.attach_call hn hdf fun w s₀ s₁ mg mb fa o pm cd doc a vs ns G Y ho hd hcd hmg hobj hints hlen hg => ?_
  have KX := hY w _ Y
  obtain ⟨fd, hb, hF⟩ := F w mg fa _ KX G.T.g hmg
  exact law_call KX G.T.g G.T.b G.T.builtins G.T.nolimit hg hobj hints (Nat.le_trans hlen hn2) hr hF hb (fun H hO hS => hsp w H a ns hlen hO hS) fun H e s' => hCX w H s₁ e s'
end L2


/-! SHORT WORDS over the layer: a def of the text, its body, what a loop and a test want. -/
namespace L2
open PySem PySem.Spec PyProof.Rows

/-! ### no exception leaves a def -/
abbrev CX0 : CXT := fun _ _ _ _ _ _ => False
abbrev E0 : XK := fun _ _ _ => False
theorem pass0 {X : Cx} : Passes CX0 X E0 := fun _ _ _ _ _ _ _ h => h.elim

/-! ### a def (or method) of the text as it stands behind the top -/
structure Fun (K : PySem.W.Frag) (x qual : Str) (st : Stmt) (f : Addr) (fd : FuncData) : Prop where
  ex : ∃ (oc : Value) (od : Option Addr) (kV doc pm : Value) (an : Option Addr) (cdv ct : Value) (osl : Array (Option Value)),
    fd = PySem.W.fnOf x qual (defArgs st) (defBody st) (defScope st) .none kV doc pm an cdv ct ∧ K.lookup f = some ⟨oc, od, .func fd, osl⟩ ∧ PySem.W.codeIn K cdv qual = true
  kp : PySem.W.keepIn K (.ref f) = true
section
variable {P : Program} {w : World} {K : PySem.W.Frag} {mg : Str → Option Value} {base : Heap}
/-- THE RULE for a def: its body as a term of rules, and the reading of that term -/
theorem Fun.ok {x qual : Str} {st : Stmt} {f : Addr} {fd : FuncData} {N ps : List Str} {k : Nat} {sp : Sp} (F : Fun K x qual st f fd) (S : FnScope N ps (defScope st)) (len : ∀ vs H Q E, sp vs H Q E → vs.length = ps.length)
    (hbody : ∀ (cdv : Value) (A : Around) (outer : List Env) (s : Shared) (H : Hp) (vs : List V) (Q : VK) (E : XK), Room k (A.deeper (envOfC qual (defScope st) s.heap.objs.size f cdv)) → sp vs H Q E →
      ∃ t, PSs (cxOf CX0 P w K mg base N qual (defScope st) f cdv A outer s H E).nox (defBody st) t ∧ t { nx := fun _ H' => Q .non H', rt := Q } (start N vs) H) : FnOk P w K mg base CX0 (k + 1) f fd ps sp := by
  obtain ⟨oc, od, kV, doc, pm, an, cdv, ct, osl, rfl, lk, hcd⟩ := F.ex
  refine fn_of lk hcd S len fun A outer s H vs Q E hr hsp => ?_
  obtain ⟨t, h, q⟩ := hbody cdv A outer s H vs Q E hr hsp
  exact ⟨t, h.nox, q⟩
/-- how its arguments bind (no defaults): h is «fun _ _ _ _ _ _ us hl => match us, hl with | [_, _], _ => rfl», one _ a parameter -/
theorem Fun.binds {x qual : Str} {st : Stmt} {f : Addr} {fd : FuncData} {ps : List Str} (F : Fun K x qual st f fd)
    (h : ∀ (kV doc pm : Value) (an : Option Addr) (cdv ct : Value) (us : List Value), us.length = ps.length → bindArgs (PySem.W.fnOf x qual (defArgs st) (defBody st) (defScope st) .none kV doc pm an cdv ct) ⟨us, []⟩ = pure (ps.zip us)) : Binds K fd ps [] := by
  obtain ⟨oc, od, kV, doc, pm, an, cdv, ct, osl, rfl, lk, hcd⟩ := F.ex
  exact .all (h kV doc pm an cdv ct)
theorem fun_mk {x qual : Str} {st : Stmt} {f : Addr} {oc : Value} {od an : Option Addr} {osl : Array (Option Value)} {kV doc pm cdv ct : Value} (l : K.lookup f = some ⟨oc, od, .func (PySem.W.fnOf x qual (defArgs st) (defBody st) (defScope st) .none kV doc pm an cdv ct), osl⟩)
    (c : PySem.W.codeIn K cdv qual = true) (k : PySem.W.keepIn K (.ref f) = true) : Fun K x qual st f (PySem.W.fnOf x qual (defArgs st) (defBody st) (defScope st) .none kV doc pm an cdv ct) := ⟨⟨oc, od, kV, doc, pm, an, cdv, ct, osl, rfl, l, c⟩, k⟩
end
theorem hu_of {A : Around} {k : Nat} (hr : Room k A) : A.units + 1 < cLine := Nat.lt_of_le_of_lt (Nat.add_le_add_left (by decide : 1 ≤ 64) _) hr.units

/-! ### expressions in short: the name that stands in the i-th slot -/
section
variable {X : Cx}
theorem pv (i : Nat) {x : Str} {pos : Pos} (hN : X.N[i]? = some x := by rfl) (hv : Vis X.env.scope x := by first | exact Or.inl rfl | exact Or.inr (Or.inl rfl) | exact Or.inr (Or.inr rfl)) (hd : (x == ("__debug__" : Str)) = false := by decide)
    (hcd : (x == ("__classdict__" : Str)) = false := by decide) : PE X (.Name x pos) (tVar i) := pe_var hN hv hd hcd
end

/-! ### tests -/
theorem iteF {A B : Prop} (h : B) : if false = true then A else B := by
  rw [if_neg Bool.false_ne_true]
  exact h
theorem iteT {A B : Prop} (h : A) : if true = true then A else B := by
  rw [if_pos rfl]
  exact h
theorem ite2 {c A B : Prop} [Decidable c] (h1 : c → A) (h2 : ¬ c → B) : if c then A else B := by
  by_cases h : c
  · rw [if_pos h]
    exact h1 h
  · rw [if_neg h]
    exact h2 h

/-! ### heaps -/
/-- all that was tracked is as it was -/
def Same (H H' : Hp) : Prop := ∀ b o, H b = some o → H' b = some o
theorem Same.refl (H : Hp) : Same H H := fun _ _ h => h
theorem Same.trans {H H1 H2 : Hp} (a : Same H H1) (b : Same H1 H2) : Same H H2 := fun c o h => b c o (a c o h)
theorem Same.free {H H' : Hp} (e : Same H H') {l : Addr} (h : H' l = Option.none) : H l = Option.none := by
  cases q : H l with
  | none => rfl
  | some o =>
    rw [e l o q] at h
    cases h
theorem Same.seq {K : PySem.W.Frag} {H H' : Hp} {a : Addr} {xs : List V} (e : Same H H') (h : SqL K H a xs) : SqL K H' a xs := by
  rcases h with (h | ⟨o, h⟩) | h
  · exact .inl (.inl (e _ _ h))
  · exact .inl (.inr ⟨o, e _ _ h⟩)
  · exact .inr h

end L2

namespace L2
open PySem PySem.Spec PyProof.Rows
section
variable {X : Cx}
/-- len of a dict -/
theorem call_lenD : CallR X (.builtin "len") (fun xs H Q => ∃ a kvs, xs = [V.ref a] ∧ H a = some (.dK kvs) ∧ Q (.int kvs.length) H) := by
  intro pins s σ H xs us Q I r h
  obtain ⟨a, kvs, rfl, ha, q⟩ := h
  obtain ⟨u, rfl, ru⟩ := vals1 r
  cases ru
  exact d_len I (.inl ha) fun t s' I' => ⟨.int kvs.length, H, I', ⟨t, rfl⟩, q⟩
end
/-! ### a dict's pairs: keys that differ -/
section
variable {κ : Type} [DecidableEq κ]
theorem dropK_neg {p : κ × V} {r : List (κ × V)} {k : κ} (e : ¬ p.1 = k) : dropK (p :: r) k = p :: dropK r k := by
  unfold dropK
  rw [List.filter_cons, if_pos (by simp [e])]
end
end L2


/-! MY OWN RULES over the layer. 1: list comprehensions -/
namespace L2
open PySem PySem.Spec PyProof.Rows

def compOk (sc os : Scope) (N' N : List Str) (cap : List (Option Nat)) : Bool :=
  (sc.kind == .function) && sc.names.all (fun y => y.2 != .cell) && sc.names.all (fun y => y.2 != .local || sc.names.lookup y.1 == some .local) &&
  sc.names.all (fun y => y.2 != .free || os.names.lookup y.1 == some .cell) && (N'.length == cap.length) &&
  (List.range cap.length).all fun i => match cap[i]? with
    | some (some j) => (match N'[i]?, N[j]? with
      | some x, some y => x == y && os.names.lookup x == some .cell && sc.names.lookup x == some .free
      | _, _ => false)
    | _ => true

/-- the values of the captured names at the block's entry -/
def capS (cap : List (Option Nat)) (σ : St) : St := cap.map fun o => match o with
  | some j => (σ[j]?).getD none
  | none => none

/-- the context of a comprehension's block -/
def compCx (X : Cx) (sc : Scope) (cl : List (Str × Addr)) (C : Addr) (N' : List Str) (s : Shared) (H : Hp) (fp : List Addr) : Cx :=
  { X with N := N', s₀ := s, H₀ := H, env := compEnvC sc cl C X.env, outer := X.stack, ex := fp, fn := fun _ => false, pn := [], xe := fun _ _ => False }

theorem relabel_back {sc : Scope} {env : Env} {x : Str} : ∀ {names : List (Str × NameKind)} {k : NameKind},
    (names.map fun (n, k) => if (k == NameKind.free && env.scope.kind == .function && env.kindOf n == some .cell) then (n, NameKind.cell) else (n, k)).lookup x = some k →
    names.lookup x = some k ∨ (names.lookup x = some .free ∧ k = .cell)
  | [], k, h => by simp at h
  | (n, k0) :: r, k, h => by
    have ih := @relabel_back sc env x r k
    rw [List.map_cons] at h
    cases hx : x == n with
    | true =>
      simp only [List.lookup_cons, hx]
      by_cases hc : (k0 == NameKind.free && env.scope.kind == .function && env.kindOf n == some .cell) = true
      · simp only [hc, if_true, List.lookup_cons, hx] at h
        cases h
        have h0 : (k0 == NameKind.free) = true := by
          revert hc
          cases (k0 == NameKind.free) <;> simp
        exact .inr ⟨by rw [eq_of_beq h0], rfl⟩
      · simp only [hc, Bool.false_eq_true, if_false, List.lookup_cons, hx] at h
        exact .inl h
    | false =>
      simp only [List.lookup_cons, hx]
      refine ih ?_
      by_cases hc : (k0 == NameKind.free && env.scope.kind == .function && env.kindOf n == some .cell) = true
      · simp only [hc, if_true, List.lookup_cons, hx] at h; exact h
      · simp only [hc, Bool.false_eq_true, if_false, List.lookup_cons, hx] at h; exact h

theorem closure_ok {env : Env} : ∀ (names : List (Str × NameKind)) (acc : List (Str × Addr)), (∀ y ∈ names, y.2 = .free → ∃ c, env.cells.lookup y.1 = some c) →
    (∀ x c, acc.lookup x = some c → env.cells.lookup x = some c) →
    ∃ cl : List (Str × Addr), (forIn (m := Sem) names acc fun y r => (if (y.2 == NameKind.free) = true then (cellOf env y.1 >>= fun a => pure (ForInStep.yield ((y.1, a) :: r))) else pure (ForInStep.yield r))) = pure cl ∧
      (∀ x c, cl.lookup x = some c → env.cells.lookup x = some c) ∧ (∀ x, (∃ c, acc.lookup x = some c) → ∃ c, cl.lookup x = some c) ∧ ∀ y ∈ names, y.2 = .free → ∃ c, cl.lookup y.1 = some c
  | [], acc, _, ha => ⟨acc, rfl, ha, fun _ h => h, fun y hy => by simp at hy⟩
  | (n, k) :: r, acc, hf, ha => by
    rw [List.forIn_cons]
    by_cases hk : (k == NameKind.free) = true
    · have hk' : k = .free := eq_of_beq hk
      obtain ⟨c, hc⟩ := hf (n, k) List.mem_cons_self hk'
      have hc : env.cells.lookup n = some c := hc
      obtain ⟨cl, e, h1, h2, h3⟩ := closure_ok r ((n, c) :: acc) (fun y hy => hf y (List.mem_cons_of_mem _ hy)) (fun x d hd => by
        rw [List.lookup_cons] at hd
        cases hx : x == n with
        | true => rw [hx] at hd; rw [eq_of_beq hx]; exact hc.trans hd
        | false => rw [hx] at hd; exact ha x d hd)
      refine ⟨cl, ?_, h1, fun x ⟨d, hd⟩ => h2 x ?_, fun y hy hyk => ?_⟩
      · have e1 : cellOf env n = pure c := by unfold cellOf; rw [hc]
        dsimp only
        rw [if_pos hk, e1]
        exact e
      · cases hx : x == n with
        | true => exact ⟨c, by rw [List.lookup_cons, hx]⟩
        | false => exact ⟨d, by rw [List.lookup_cons, hx]; exact hd⟩
      · rcases List.mem_cons.mp hy with rfl | hy
        · exact h2 n ⟨c, by rw [List.lookup_cons, beq_self_eq_true]⟩
        · exact h3 y hy hyk
    · obtain ⟨cl, e, h1, h2, h3⟩ := closure_ok r acc (fun y hy => hf y (List.mem_cons_of_mem _ hy)) ha
      refine ⟨cl, ?_, h1, h2, fun y hy hyk => ?_⟩
      · dsimp only
        rw [if_neg hk]
        exact e
      · rcases List.mem_cons.mp hy with rfl | hy
        · exact absurd (by rw [show k = .free from hyk]; rfl) hk
        · exact h3 y hy hyk

theorem closureFor_ok {sc : Scope} {env : Env} (hf : ∀ y ∈ sc.names, y.2 = .free → ∃ c, env.cells.lookup y.1 = some c) :
    ∃ cl : List (Str × Addr), closureFor sc env = pure cl ∧ (∀ x c, cl.lookup x = some c → env.cells.lookup x = some c) ∧ ∀ y ∈ sc.names, y.2 = .free → ∃ c, cl.lookup y.1 = some c := by
  obtain ⟨cl, e, h1, _, h3⟩ := closure_ok sc.names [] hf (fun x c h => by simp at h)
  refine ⟨cl, ?_, h1, h3⟩
  unfold closureFor
  show (forIn sc.names [] _ >>= fun cs => pure cs) = pure cl
  have e' : (forIn (m := Sem) sc.names ([] : List (Str × Addr)) fun x r => match x with | (name, kind) => if (kind == NameKind.free) = true then (cellOf env name >>= fun a => pure (ForInStep.yield ((name, a) :: r))) else pure (ForInStep.yield r)) = pure cl := e
  first
    | (rw [e']; rfl)
    | (simp only [e']; rfl)
    | exact e'

structure CompFacts (X : Cx) (sc : Scope) (N' : List Str) (cap : List (Option Nat)) : Prop where
  kind : sc.kind = .function
  nocell : ∀ y ∈ sc.names, y.2 ≠ .cell
  names : ∀ y ∈ sc.names, y.2 = .local → sc.names.lookup y.1 = some .local
  free : ∀ y ∈ sc.names, y.2 = .free → X.env.scope.names.lookup y.1 = some .cell
  len : N'.length = cap.length
  caps : ∀ (i j : Nat), cap[i]? = some (some j) → ∃ x, N'[i]? = some x ∧ X.N[j]? = some x ∧ X.env.scope.names.lookup x = some .cell ∧ sc.names.lookup x = some .free

theorem compFacts {X : Cx} {sc : Scope} {N' : List Str} {cap : List (Option Nat)} (h : compOk sc X.env.scope N' X.N cap = true) : CompFacts X sc N' cap := by
  unfold compOk at h
  simp only [Bool.and_eq_true, List.all_eq_true, bne_iff_ne, beq_iff_eq, Bool.or_eq_true, ne_eq, List.mem_range] at h
  obtain ⟨⟨⟨⟨⟨h1, h2⟩, h3⟩, h4⟩, h5⟩, h6⟩ := h
  refine ⟨h1, h2, fun y hy hk => (h3 y hy).resolve_left (fun q => q hk), fun y hy hk => (h4 y hy).resolve_left (fun q => q hk), h5, fun i j e => ?_⟩
  have hi : i < cap.length := (List.getElem?_eq_some_iff.mp e).1
  have q := h6 i hi
  rw [e] at q
  cases e1 : N'[i]? with
  | none => simp [e1] at q
  | some x =>
    cases e2 : X.N[j]? with
    | none => simp [e1, e2] at q
    | some y =>
      simp only [e1, e2, Bool.and_eq_true, beq_iff_eq] at q
      exact ⟨x, rfl, by rw [q.1.1], q.1.2, q.2⟩

/-- the tests of a comprehension -/
def PTs (X : Cx) (ifs : List Expr) (t : TT) : Prop :=
  ∀ (pins : List (Addr × Obj)) (s : Shared) (σ : St) (H : Hp) (Q : Bool → Hp → Prop), Inv X pins σ H s → t σ H Q →
    wpAny (model X.prog X.w) X.A (forIn ifs true fun c r => if r = true then do let ok ← isTrue c X.env (eval c X.env); pure (ForInStep.yield ok) else pure (ForInStep.yield r)) (TP X pins σ Q) X.xe s
def tYes : TT := fun _ H Q => Q true H
theorem pts_nil {X : Cx} : PTs X [] tYes := fun _ _ _ H _ I h => wpAny_tests_nil ⟨H, I, h⟩
theorem pts_one {X : Cx} {c : Expr} {t : TT} (h : PT X c t) : PTs X [c] t := fun pins s σ H Q I q => wpAny_tests_one (h pins s σ H Q I q)

/-- [elt for tg in iter if ..]: W by the turn, a measure, the items so far, the block's names -/
def LcG (cap : List (Option Nat)) (g : TG) (tc : TT) (te : TE) (σ : St) (Q : VK) : It → Hp → Prop := fun J H1 =>
  ∃ W : Nat → Nat → List V → St → Hp → Prop, (∃ m, W 0 m [] (capS cap σ) H1) ∧ ∀ i m ys σ' H', W i m ys σ' H' → ys.length ≤ sizeLine ∧
    ((J.stop i H' ∧ ∀ p, H' p = none → Q (.ref p) (upd H' p (.lst ys))) ∨
     (J.go i H' ∧ ∀ x H2, J.yld i H' x H2 → g x σ' H2 fun σ3 H3 => tc σ3 H3 fun b H4 =>
       if b = true then te σ3 H4 fun y H5 => ys.length < sizeLine ∧ ∃ m', m' < m ∧ W (i + 1) m' (ys ++ [y]) σ3 H5 else ∃ m', m' < m ∧ W (i + 1) m' ys σ3 H4))
def tLc (cap : List (Option Nat)) (wi : TI) (g : TG) (tc : TT) (te : TE) : TE := fun σ H Q => wi σ H (LcG cap g tc te σ Q)

section
variable {X : Cx} {sc : Scope} {N' : List Str} {cap : List (Option Nat)} {pins : List (Addr × Obj)} {σ : St} {H : Hp} {s : Shared} {fp : List Addr} {cl : List (Str × Addr)} {C : Addr}

theorem compCx_ok (I : Inv X pins σ H s) (F : CompFacts X sc N' cap) (hcl : ∀ x c, cl.lookup x = some c → X.env.cells.lookup x = some c)
    (hcl2 : ∀ y ∈ sc.names, y.2 = .free → ∃ c, cl.lookup y.1 = some c) (hf : ∀ b ∈ fp, FpOk X pins H b) (hC : s.heap.objs.size ≤ C) (hfs : ∀ b ∈ fp, b < s.heap.objs.size) : (compCx X sc cl C N' s H fp).Ok where
  mod := I.ok.mod
  kind := F.kind
  glob := I.ok.glob
  blt := I.ok.blt
  above := hC
  inj := fun x y c h1 h2 => I.ok.inj x y c (hcl x c h1) (hcl y c h2)
  has := fun x hx => by
    have key : ∀ k, (compEnvC sc cl C X.env).kindOf x = some k → (k = .cell ∨ k = .free) → ∃ c, cl.lookup x = some c := fun k hk hkk => by
      rcases relabel_back (sc := sc) (env := X.env) (names := sc.names) hk with q | ⟨q, _⟩
      · have m := PySem.mem_of_lookup q
        rcases hkk with e | e
        · exact absurd e (F.nocell _ m)
        · exact hcl2 _ m e
      · exact hcl2 _ (PySem.mem_of_lookup q) rfl
    rcases hx with hx | hx
    · exact key _ hx (.inl rfl)
    · exact key _ hx (.inr rfl)
  cab := fun x c h => by cases h
  hd := I.ok.hd
  frames := I.ok.frames
  stk := .inl rfl
  exf := fun b hb => ⟨Nat.ne_of_lt (Nat.lt_of_lt_of_le (hfs b hb) hC), fun x c e => (hf b hb).2.2.2.2.1 x c (hcl x c e)⟩
  bs := I.bs
  bsz := Nat.le_trans I.ok.bsz I.sz
  noex := fun b o e hb => by
    rcases (hf b hb).2.2.2.1 with z | z
    · exact I.ok.noex b o e z
    · exact absurd (Nat.lt_of_lt_of_le (Nat.lt_of_lt_of_le (Heap.lt_size e) I.ok.bsz) z) (Nat.lt_irrefl _)
  exfs := fun b hb z => by
    rcases List.mem_cons.mp (I.stkSub b z) with q | q
    · exact (hf b hb).2.1 q
    · exact (hf b hb).2.2.1 q
  funs := I.stack
  frf := I.stkFree

/-- the block's state at its entry -/
theorem compCx_inv {h₁ : Heap} {tk : Nat} {m : Str → Option Value} (I : Inv X pins σ H s) (F : CompFacts X sc N' cap) (hcl : ∀ x c, cl.lookup x = some c → X.env.cells.lookup x = some c)
    (hcl2 : ∀ y ∈ sc.names, y.2 = .free → ∃ c, cl.lookup y.1 = some c) (hf : ∀ b ∈ fp, FpOk X pins H b) (hC : s.heap.objs.size ≤ C) (hfs : ∀ b ∈ fp, b < s.heap.objs.size)
    (old : ∀ b o, s.heap.get? b = some o → h₁.get? b = some o) (hns : h₁.Ns C m) : Inv (compCx X sc cl C N' s H fp) [] (capS cap σ) H { s with heap := h₁, toks := tk } := by
  have free : H C = none := I.hok.fresh hC
  refine ⟨compCx_ok I F hcl hcl2 hf hC hfs, rfl, I.bare, Un.kept old, ⟨m, hns, fun i x v e1 e2 e3 => ?_⟩, fun x c e => ?_, free, fun x c e => I.freeC x c (hcl x c e), fun p hp => by simp [compCx] at hp, I.hok.kept old, by simp [capS, compCx, F.len]⟩
  · unfold capS at e2
    rw [List.getElem?_map] at e2
    cases ec : cap[i]? with
    | none => rw [ec] at e2; simp at e2
    | some oj =>
      rw [ec] at e2
      cases oj with
      | none => simp at e2
      | some j =>
        obtain ⟨x', g1, g2, g3, g4⟩ := F.caps i j ec
        have ex : x' = x := Option.some.inj (g1.symm.trans (show N'[i]? = some x from e1))
        subst ex
        have e2' : (σ[j]?).getD none = some v := Option.some.inj e2
        have e2'' : σ[j]? = some (some v) := by
          cases q : σ[j]? with
          | none => rw [q] at e2'; cases e2'
          | some z => rw [q] at e2'; exact congrArg some e2'
        obtain ⟨m0, _, hl⟩ := I.loc
        obtain ⟨u, r, l⟩ := hl j x' v g2 e2'' (.inr (.inl g3))
        refine ⟨u, r, ?_⟩
        rcases l with ⟨k, _⟩ | ⟨k, c, e, z⟩
        · have k' : X.env.scope.names.lookup x' = some .local := k
          rw [g3] at k'; cases k'
        · have hv : (compEnvC sc cl C X.env).kindOf x' = some .local ∨ (compEnvC sc cl C X.env).kindOf x' = some .cell ∨ (compEnvC sc cl C X.env).kindOf x' = some .free := e3
          have onef : sc.names.lookup x' = some .free → Look (compEnvC sc cl C X.env) h₁ m x' u := fun q => by
            obtain ⟨c', hc'⟩ := hcl2 _ (PySem.mem_of_lookup q) rfl
            have hc' : cl.lookup x' = some c' := hc'
            have : c' = c := Option.some.inj ((hcl x' c' hc').symm.trans e)
            subst this
            refine .inr ⟨?_, c', hc', z.keeps old⟩
            rcases hv with k1 | k1 | k1
            · exfalso
              rcases relabel_back (sc := sc) (env := X.env) (names := sc.names) k1 with q1 | ⟨_, q2⟩
              · rw [q] at q1; cases q1
              · cases q2
            · exact .inl k1
            · exact .inr k1
          exact onef g4
  · obtain ⟨v, z⟩ := I.cell x c (hcl x c e)
    exact ⟨v, z.keeps old⟩

/-- the loop, its turn with the owned tuple let go -/
theorem compLoop_by {prog : Program} {w : World} {A : Around} {R : Result → Shared → Prop} {elt tg iter : Expr} {ifs : List Expr} {scope : Scope} {pos : Pos} {it acc : Value} {env : Env} {s : Shared} (J : Nat → Shared → Prop)
    (turn : ∀ n s, J n s → wpAny (model prog w) A (pyNext it) (fun r s₁ => (r = none ∧ R (.ok .next) s₁) ∨ ∃ v, r = some v ∧ wpAny (model prog w) A (letOwnedTupleGo tg it v) (fun _ s1 =>
        wpAny (model prog w) A (assign tg env v) (fun _ s₂ =>
          wpAny (model prog w) A (forIn ifs true fun c r => if r = true then do let ok ← isTrue c env (eval c env); pure (ForInStep.yield ok) else pure (ForInStep.yield r)) (fun ok s₃ =>
            if ok = true then wpAny (model prog w) A (eval elt env) (fun x s₄ =>
              wpAny (model prog w) A (call (.builtin "list.append") [acc, x]) (fun _ s₅ => ∃ m, m < n ∧ J m s₅) (fun _ _ => False) s₄) (fun _ _ => False) s₃
            else ∃ m, m < n ∧ J m s₃) (fun _ _ => False) s₂) (fun _ _ => False) s1) (fun _ _ => False) s₁) (fun _ _ => False) s)
    (n : Nat) (h : J n s) : codeAny (model prog w) A (.compLoop (.ListComp elt [⟨tg, iter, ifs, 0⟩] scope pos) 0 it acc env) R s := by
  refine codeAny_loop rfl J (fun n s hJ => ?_) n h
  show wpAny _ A ((compTurn (.ListComp elt [⟨tg, iter, ifs, 0⟩] scope pos) 0 it acc env).onRaise (fun x => do noteFrame x env; theTreesLotGoes x)) _ _ s
  refine wpAny_noted ?_
  rw [compTurn_list]
  refine wpAny_bind (wpAny_standAt (wpAny_bind (wpAny_mono (turn n s hJ) (fun r s₁ h₁ => ?_) fun _ _ f => f.elim)))
  rcases h₁ with ⟨rfl, h₁⟩ | ⟨v, rfl, h₁⟩
  · exact wpAny_pure h₁
  · refine wpAny_bind (wpAny_mono h₁ (fun _ s1 h1 => ?_) fun _ _ f => f.elim)
    refine wpAny_bind (wpAny_mono h1 (fun _ s₂ h₂ => wpAny_bind (wpAny_mono h₂ (fun ok s₃ h₃ => ?_) fun _ _ f => f.elim)) fun _ _ f => f.elim)
    cases ok with
    | false => exact wpAny_pure ⟨rfl, h₃⟩
    | true =>
      exact wpAny_bind (wpAny_bind (wpAny_mono h₃ (fun x s₄ h₄ => wpAny_bind (wpAny_mono h₄ (fun _ s₅ h₅ => wpAny_pure (wpAny_pure ⟨rfl, h₅⟩)) fun _ _ f => f.elim)) fun _ _ f => f.elim))

/-- THE BLOCK: from the iterator on, to a state of the def with the list tracked -/
theorem comp_block {elt tg iter : Expr} {ifs : List Expr} {pos : Pos} {g : TG} {tc : TT} {te : TE} {Qv : VK} {it : Addr} {tn : Nat → Heap → Prop} {J : It} {E : Value → Shared → Prop} {RR : Value → Addr → Result → Shared → Prop}
    {W : Nat → Nat → List V → St → Hp → Prop} {m0 : Nat} (hc : X.calm = true) (I : Inv X pins σ H s) (F : CompFacts X sc N' cap) (hcl : ∀ x c, cl.lookup x = some c → X.env.cells.lookup x = some c)
    (hcl2 : ∀ y ∈ sc.names, y.2 = .free → ∃ c, cl.lookup y.1 = some c)
    (hg : ∀ cl C s H fp, PG (compCx X sc cl C N' s H fp) tg g) (ht : ∀ cl C s H fp, PTs (compCx X sc cl C N' s H fp) ifs tc) (he : ∀ cl C s H fp, PE (compCx X sc cl C N' s H fp) elt te)
    (T : Turn X.prog X.w X.K tg J fp it tn) (st : tn 0 s.heap) (hf : ∀ b ∈ fp, FpOk X pins H b) (w0 : W 0 m0 [] (capS cap σ) H)
    (turn : ∀ i m ys σ' H', W i m ys σ' H' → ys.length ≤ sizeLine ∧ ((J.stop i H' ∧ ∀ p, H' p = none → Qv (.ref p) (upd H' p (.lst ys))) ∨
     (J.go i H' ∧ ∀ x H2, J.yld i H' x H2 → g x σ' H2 fun σ3 H3 => tc σ3 H3 fun b H4 =>
       if b = true then te σ3 H4 fun y H5 => ys.length < sizeLine ∧ ∃ m', m' < m ∧ W (i + 1) m' (ys ++ [y]) σ3 H5 else ∃ m', m' < m ∧ W (i + 1) m' ys σ3 H4)))
    (fin : ∀ (D C : Addr) (m : Str → Option Value) (H' : Hp) (s' : Shared), s.heap.objs.size ≤ C → s'.heap.Ns C m → Inv X pins σ H' s' → FpOk X pins H' C → Qv (.ref D) H' → RR (.ref D) C (.ok .next) s') :
    wpAny (model X.prog X.w) X.A (newList []) (fun acc s₃ => wpAny (model X.prog X.w) X.A (newFunctionEnv sc X.env.globals cl [] X.env.qual none .none (some X.env)) (fun cenv s₄ =>
      codeAny (model X.prog X.w) X.A (.compStart (.ListComp elt [⟨tg, iter, ifs, 0⟩] sc pos) 0 (.ref it) acc { cenv with scope := relabel sc X.env }) (RR acc cenv.locals) s₄) E s₃) E s := by
  refine wpAny_newObj_type (wpAny_newFunctionEnv F.nocell (by intro y hy; simp at hy) (fun h₁ hns₁ hsb₁ => ?_) F.kind)
  dsimp only at hns₁ hsb₁ ⊢
  have hfs : ∀ b ∈ fp, b < s.heap.objs.size := fun b hb => by
    obtain ⟨o, e, _⟩ := T.obj _ _ st b hb
    exact Heap.lt_size e
  have old : ∀ b o, s.heap.get? b = some o → h₁.get? b = some o := fun b o e => by
    have hb := Heap.lt_size e
    exact hsb₁.extBut b o (by rw [Heap.size_push]; exact Nat.ne_of_lt (Nat.lt_succ_of_lt hb)) (Heap.get?_push_of_some _ (Heap.get?_push_of_some _ e))
  generalize hCe : (s.heap.push { cls := .type "list", dict := none, data := .seq ([] : List Value).toArray }).objs.size = C at *
  have hCs : C = s.heap.objs.size + 1 := by rw [← hCe, Heap.size_push]
  have hC : s.heap.objs.size ≤ C := by omega
  have hDC : s.heap.objs.size ≠ C := by omega
  have hD₁ : h₁.get? s.heap.objs.size = some { cls := .type "list", data := .seq ([] : List Value).toArray 0 } :=
    hsb₁.extBut _ _ hDC (Heap.get?_push_of_some _ (Heap.get?_push_size _ rfl))
  have freeD : H s.heap.objs.size = none := I.hok.fresh (Nat.le_refl _)
  -- the list as a pin
  let X' : Cx := compCx X sc cl C N' s H fp
  have I0 : Inv X' [] (capS cap σ) H { s with heap := h₁, toks := s.toks + ([] : List (Str × Value)).length } := compCx_inv I F hcl hcl2 hf hC hfs old hns₁
  have fpX : ∀ {H' : Hp} {pl : List (Addr × Obj)}, (∀ b ∈ fp, H' b = none) → (∀ p ∈ pl, p.1 = s.heap.objs.size) → ∀ b ∈ fp, FpOk X' pl H' b := fun {H' pl} hn hp b hb => by
    refine ⟨hn b hb, Nat.ne_of_lt (Nat.lt_of_lt_of_le (hfs b hb) hC), I0.ok.exfs b hb, .inl hb, (I0.ok.exf b hb).2, fun p hpp => ?_⟩
    have : p.1 = s.heap.objs.size := hp p (by simpa [X', compCx] using hpp)
    rw [this]
    exact Ne.symm (Nat.ne_of_lt (hfs b hb))
  have nD : s.heap.objs.size ∉ X'.fs := fun z => by
    obtain ⟨_, o, ho, _⟩ := I0.ok.funs.mem z
    exact absurd (Heap.lt_size ho) (Nat.lt_irrefl _)
  have cD : ∀ x c, X'.env.cells.lookup x = some c → c ≠ s.heap.objs.size := fun x c e z => by
    obtain ⟨v, q⟩ := I.cell x c (hcl x c e)
    exact absurd q.lt (by rw [z]; exact Nat.lt_irrefl _)
  have loop : codeAny (model X.prog X.w) X.A (.compLoop (.ListComp elt [⟨tg, iter, ifs, 0⟩] sc pos) 0 (.ref it) (.ref s.heap.objs.size) (compEnvC sc cl C X.env)) (RR (.ref s.heap.objs.size) C) { s with heap := h₁, toks := s.toks + ([] : List (Str × Value)).length } := by
    refine compLoop_by (fun n s' => ∃ i ys σ' H' its k, Inv X' [(s.heap.objs.size, { cls := .type "list", data := .seq (List.toArray its) k })] σ' H' s' ∧ tn i s'.heap ∧ (∀ b ∈ fp, H' b = none) ∧ Vals ys its ∧ W i n ys σ' H') ?_ m0
      ⟨0, [], capS cap σ, H, [], 0, I0.pins_of fun p hp => ?_, T.keep _ _ _ st fun b _ o e => old b o e, fun b hb => (hf b hb).1, .nil, w0⟩
    · rintro n s3 ⟨i, ys, σ3, H3, its, k, I3, st3, fr3, rv, w3⟩
      obtain ⟨hlen, way⟩ := turn i n ys σ3 H3 w3
      have f3 := fpX (pl := [(s.heap.objs.size, { cls := .type "list", data := .seq (List.toArray its) k })]) fr3 (fun p hp => by rw [List.mem_singleton.mp hp])
      rcases way with ⟨stop, qn⟩ | ⟨go, step⟩
      · refine thn (T.done X' rfl rfl rfl hc i _ s3 σ3 H3 _ I3 f3 st3 stop) fun r s4 ⟨hr, I4⟩ => .inl ⟨hr, ?_⟩
        obtain ⟨eD, nD3, neD, nfD, _⟩ := I4.pin (s.heap.objs.size, { cls := .type "list", data := .seq (List.toArray its) k }) (by simp [X', compCx])
        obtain ⟨m4, hn4, _⟩ := id I4.loc
        have u4 : Un (frs X.stack) fp H H3 s.heap s4.heap := I4.base
        have lts : ∀ b o, s.heap.get? b = some o → b ≠ s.heap.objs.size := fun b o e => Nat.ne_of_lt (Heap.lt_size e)
        have hokF : HOk X.prog X.w (upd H3 s.heap.objs.size (.lst ys)) s4.heap := fun b o e => by
          by_cases hb : b = s.heap.objs.size
          · subst hb
            rw [upd_same] at e; cases e
            exact ⟨hlen, its, k, rv, eD⟩
          · rw [upd_ne hb] at e
            exact (I4.hok b o e).stay (fun _ _ _ q => q) (fun c q => by rw [upd_ne (ne_of_none q nD3)]; exact q) fun c xs q => by rw [upd_ne (ne_of_none q nD3)]; exact q
        have uF : Un (frs X.stack) fp H (upd H3 s.heap.objs.size (.lst ys)) s.heap s4.heap :=
          ⟨u4.keep, u4.slot, fun b o e n hx => by rw [upd_ne (lts b o e)]; exact u4.free b o e n hx, u4.there, fun b xs e => by rw [upd_ne (ne_of_none e freeD)]; exact u4.tups b xs e, fun b o xs e => by rw [upd_ne (ne_of_none e freeD)]; exact u4.frzs b o xs e,
            fun b ps e => by rw [upd_ne (ne_of_none e freeD)]; exact u4.tbls b ps e⟩
        have IF : Inv X pins σ (upd H3 s.heap.objs.size (.lst ys)) s4 := I.call' (ch := fp) I4.os uF hokF I4.bare fun b hb => by
          obtain ⟨_, g1, _, g3, g4, g5⟩ := hf b hb
          exact ⟨g3, g1, g4, g5⟩
        exact fin _ C m4 _ s4 hC hn4 IF (I.fpOk hC (by rw [upd_ne (Ne.symm hDC)]; exact I4.free)) (qn _ nD3)
      · refine thn (T.item X' rfl rfl rfl hc i _ s3 σ3 H3 _ I3 f3 st3 go) fun r s4 ⟨u, hr, h4⟩ => .inr ⟨u, hr, ?_⟩
        refine thn h4 fun _ s5 ⟨x, H5, I5, r5, y5, st5, fr5⟩ => ?_
        have I5' := I5.pinned (fpX fr5 (fun p hp => by rw [List.mem_singleton.mp hp])) (T.obj _ _ st5)
        refine thn (hg cl C s H fp _ s5 σ3 H5 x u _ I5' r5 (step x H5 y5)) fun _ s6 ⟨σ6, H6, I6, q6⟩ => ?_
        refine thn (ht cl C s H fp _ s6 σ6 H6 _ I6 q6) fun b s7 ⟨H7, I7, q7⟩ => ?_
        have keepT : ∀ {σ8 : St} {H8 : Hp} {s8 : Shared}, Inv X' ([(s.heap.objs.size, { cls := .type "list", data := .seq (List.toArray its) k })] ++ pinsAt fp s5.heap) σ8 H8 s8 → tn (i + 1) s8.heap ∧ ∀ b ∈ fp, H8 b = none := fun {σ8 H8 s8} I8 => by
          refine ⟨T.keep _ _ _ st5 fun b hb o e => (I8.pin (b, o) (List.mem_append_right _ (List.mem_append_right _ (mem_pinsAt hb e)))).1, fun b hb => ?_⟩
          obtain ⟨o, e, d⟩ := T.obj _ _ st5 b hb
          exact (I8.pin (b, o) (List.mem_append_right _ (List.mem_append_right _ (mem_pinsAt hb e)))).2.1
        cases b with
        | false =>
          rw [if_neg Bool.false_ne_true] at q7
          rw [if_neg Bool.false_ne_true]
          obtain ⟨m', hm, w7⟩ := q7
          obtain ⟨t7, n7⟩ := keepT I7
          exact ⟨m', hm, i + 1, ys, σ6, H7, its, k, I7.unpinned, t7, n7, rv, w7⟩
        | true =>
          rw [if_pos rfl] at q7
          rw [if_pos rfl]
          refine thn (he cl C s H fp _ s7 σ6 H7 _ I7 q7) fun z s8 ⟨y, H8, I8, r8, hl8, m', hm, w8⟩ => ?_
          obtain ⟨t8, n8⟩ := keepT I8
          obtain ⟨eD, nD8, neD, nfD, _⟩ := I8.pin (s.heap.objs.size, { cls := .type "list", data := .seq (List.toArray its) k }) (by simp [X', compCx])
          have hrl := rv.length
          refine call_meets PySem.F.slot_list_append ⟨_, eD, rfl⟩ PySem.F.entry_list_append (PySem.F.args_list_append_2 _ _) (PySem.list_append _ its.toArray k z (by rw [List.size_toArray]; omega)) ⟨eD, ?_⟩
          have q := PySem.IsL.update eD (·.push z)
          have I9 : Inv X' [] σ6 H8 { s8 with heap := s8.heap.update s.heap.objs.size (Obj.mapSeq (·.push z)) } :=
            (I8.pins_of (pins' := []) (fun p hp => by simp at hp)).turned (t' := s8.toks) (it := s.heap.objs.size) (fun b' u hb hu => (Heap.get?_update_other s8.heap (Obj.mapSeq (·.push z)) (Ne.symm hb)).trans hu) nD8 hDC (.inr (Nat.le_refl _)) cD (fun p hp => by simp [X', compCx] at hp)
          refine ⟨m', hm, i + 1, ys ++ [y], σ6, H8, its ++ [z], (if ((its.toArray.push z).size == its.toArray.size) = true then k else k + 1), I9.pins_of fun p hp => ?_, ?_, n8, rv.append (.cons r8 .nil), w8⟩
          · rw [List.mem_singleton.mp hp]
            exact ⟨by rw [show (its ++ [z]).toArray = its.toArray.push z by simp]; exact q, nD8, hDC, nD, fun v e => by cases e⟩
          · exact T.keep _ _ _ t8 fun b hb o e => (Heap.get?_update_other s8.heap (Obj.mapSeq (·.push z)) (Nat.ne_of_lt (hfs b hb)).symm).trans e
    · rw [List.mem_singleton.mp hp]
      exact ⟨hD₁, freeD, hDC, nD, fun v e => by cases e⟩
  exact codeAny_compStart_list loop (T.self _ 0 _ _ _ (T.keep _ _ _ st fun b _ o e => old b o e) loop)

theorem compFacts_cl (I : Inv X pins σ H s) (F : CompFacts X sc N' cap) : ∃ cl : List (Str × Addr), closureFor sc X.env = pure cl ∧ (∀ x c, cl.lookup x = some c → X.env.cells.lookup x = some c) ∧ ∀ y ∈ sc.names, y.2 = .free → ∃ c, cl.lookup y.1 = some c :=
  closureFor_ok fun y hy hk => I.ok.has y.1 (.inl (F.free y hy hk))

theorem pe_lc {elt tg iter : Expr} {ifs : List Expr} {pos : Pos} {wi : TI} {g : TG} {tc : TT} {te : TE} (hc : X.calm = true) (hk : compOk sc X.env.scope N' X.N cap = true) (hi : PI X tg iter wi)
    (hg : ∀ cl C s H fp, PG (compCx X sc cl C N' s H fp) tg g) (ht : ∀ cl C s H fp, PTs (compCx X sc cl C N' s H fp) ifs tc) (he : ∀ cl C s H fp, PE (compCx X sc cl C N' s H fp) elt te)
    (hs : ∀ x, foldedSetIterable iter X.env x = pure x := by intro _; rfl) : PE X (.ListComp elt [⟨tg, iter, ifs, 0⟩] sc pos) (tLc cap wi g tc te) := by
  intro pins s σ H Q I h
  have F := compFacts hk
  obtain ⟨cl, ecl, hcl, hcl2⟩ := compFacts_cl I F
  rw [eval_ListComp]
  refine wpAny_comprehension_free (use := none) rfl hs ecl F.kind F.names (thn (hi pins s σ H _ I h) fun v s1 h1 => thn h1 fun itv s2 h2 => ?_)
  obtain ⟨it, fp, tn, J, H2, e, I2, T, st2, f2, W, ⟨m0, w0⟩, turn⟩ := h2
  subst e
  refine comp_block hc I2 F hcl hcl2 hg ht he T st2 f2 w0 turn (RR := fun acc C => compPost (model X.prog X.w) X.A X.xe none (EP X pins σ Q) acc C) ?_
  intro D C m H' s' hC hn I' fC q
  refine ⟨m, hn, fun h' hs' => ⟨.ref D, H', ?_, rfl, q⟩⟩
  obtain ⟨g0, g1, _, g3, g4, g5⟩ := fC
  exact I'.turned (t' := s'.toks) (fun b o hb e => (hs'.2 b hb).trans e) g0 g1 g3 g4 g5

/-- name = [..], the name a plain local of the def -/
def tSetLc (i : Nat) (t : TE) : TS := fun D σ H => t σ H fun v H1 => D.nx (σ.set i (some v)) H1
theorem ps_setlc {i : Nat} {x : Str} {elt tg iter : Expr} {ifs : List Expr} {pos spos px : Pos} {wi : TI} {g : TG} {tc : TT} {te : TE} (hN : X.N.Nodup) (hi' : X.N[i]? = some x) (hx : X.env.scope.names.lookup x = some .local) (hc : X.calm = true) (hk : compOk sc X.env.scope N' X.N cap = true) (hi : PI X tg iter wi)
    (hg : ∀ cl C s H fp, PG (compCx X sc cl C N' s H fp) tg g) (ht : ∀ cl C s H fp, PTs (compCx X sc cl C N' s H fp) ifs tc) (he : ∀ cl C s H fp, PE (compCx X sc cl C N' s H fp) elt te)
    (hsw : swapsWith (.ListComp elt [⟨tg, iter, ifs, 0⟩] sc pos) (some (.Name x px)) spos.line X.env = pure true) (hs : ∀ x, foldedSetIterable iter X.env x = pure x := by intro _; rfl) :
    PS X (.Assign [.Name x px] (.ListComp elt [⟨tg, iter, ifs, 0⟩] sc pos) spos) (tSetLc i (tLc cap wi g tc te)) := by
  intro pins s σ H D I h
  have F := compFacts hk
  obtain ⟨cl, ecl, hcl, hcl2⟩ := compFacts_cl I F
  rw [exec_Assign_Name_used _ _ _ _ hsw]
  refine wpAny_bind (wpAny_standAt (wpAny_bind ?_))
  show wpAny _ X.A (do let _ ← comprehension (.ListComp elt [⟨tg, iter, ifs, 0⟩] sc pos) sc X.env _ (newList []) false (eval iter X.env) (some (assign (.Name x px) X.env))) _ _ s
  refine wpAny_bind (wpAny_mono (wpAny_comprehension_free (use := some (assign (.Name x px) X.env)) (Q := fun _ s' => SP X pins D .next s') rfl hs ecl F.kind F.names
    (thn (hi pins s σ H _ I h) fun v s1 h1 => thn h1 fun itv s2 h2 => ?_)) (fun _ s' hq => wpAny_pure (wpAny_pure hq)) fun _ _ e => e)
  obtain ⟨it, fp, tn, J, H2, e, I2, T, st2, f2, W, ⟨m0, w0⟩, turn⟩ := h2
  subst e
  refine comp_block (Qv := fun v H1 => D.nx (σ.set i (some v)) H1) hc I2 F hcl hcl2 hg ht he T st2 f2 w0 turn (RR := fun acc C => compPost (model X.prog X.w) X.A X.xe (some (assign (.Name x px) X.env)) (fun _ s' => SP X pins D .next s') acc C) ?_
  intro Dl C m H' s' hC hn I' fC q
  show wpAny _ X.A (assign (.Name x px) X.env (.ref Dl)) _ _ s'
  refine wpAny_assign_Name (store_ok2 I' hN hi' (.inl hx) (v := .ref Dl) rfl (fun s'' I'' ⟨a, sb, ha⟩ => ?_) (.inr hx))
  obtain ⟨g0, g1, _, g3, g4, g5⟩ := fC
  have hCa : C ≠ a := by
    rcases ha with e | e
    · rw [e]; exact g1
    · exact Ne.symm (g4 x a e)
  refine ⟨m, hn.sameBut sb hCa, fun h' hs' => ⟨σ.set i (some (.ref Dl)), H', ?_, q⟩⟩
  exact I''.turned (t' := s''.toks) (fun b o hb e => (hs'.2 b hb).trans e) g0 g1 g3 g4 g5

end
end L2

/-! MY OWN RULES. 2: the sorting tree, evaluated under a strict total order -/
namespace L2
open PySem PySem.W PyProof.Rows

/-- every question lies below n, and the answers of o lead to an end with Q -/
def KOk (o : Nat → Nat → Bool) (n : Nat) {α : Type} : KasT α → (α → Prop) → Prop
  | .ret a, Q => Q a
  | .ask i j k, Q => i < n ∧ j < n ∧ i ≠ j ∧ KOk o n (k (o i j)) Q
theorem KOk.bind {o : Nat → Nat → Bool} {n : Nat} {α β : Type} {f : α → KasT β} {Q : β → Prop} : ∀ (t : KasT α), KOk o n t (fun a => KOk o n (f a) Q) → KOk o n (t.bind f) Q
  | .ret a, h => h
  | .ask i j k, ⟨h1, h2, h0, h3⟩ => ⟨h1, h2, h0, KOk.bind (k (o i j)) h3⟩
theorem KOk.mono {o : Nat → Nat → Bool} {n : Nat} {α : Type} {Q Q' : α → Prop} (hq : ∀ a, Q a → Q' a) : ∀ (t : KasT α), KOk o n t Q → KOk o n t Q'
  | .ret a, h => hq a h
  | .ask i j k, ⟨h1, h2, h0, h3⟩ => ⟨h1, h2, h0, KOk.mono hq (k (o i j)) h3⟩
theorem KOk.wp {o : Nat → Nat → Bool} {n : Nat} {α : Type} {Q : α → Prop} {G : α → Shared → Prop} {cmp : Nat → Nat → (Bool → Shared → Prop) → Shared → Prop} {s : Shared}
    (hc : ∀ i j, i < n → j < n → i ≠ j → ∀ C : Bool → Shared → Prop, C (o i j) s → cmp i j C s) (hq : ∀ a, Q a → G a s) : ∀ (t : KasT α), KOk o n t Q → t.kasWp cmp G s
  | .ret a, h => hq a h
  | .ask i j k, ⟨h1, h2, h0, h3⟩ => hc i j h1 h2 h0 _ (KOk.wp hc hq (k (o i j)) h3)

structure SOrd (o : Nat → Nat → Bool) (n : Nat) : Prop where
  irr : ∀ i, i < n → o i i = false
  tr : ∀ i j k, i < n → j < n → k < n → o i j = true → o j k = true → o i k = true
  tot : ∀ i j, i < n → j < n → i ≠ j → o i j = true ∨ o j i = true

section
variable {o : Nat → Nat → Bool} {n : Nat}
/-- a permutation of the places below n -/
structure PermN (n : Nat) (p : Array Nat) : Prop where
  perm : p.toList.Perm (List.range n)
theorem PermN.size {p : Array Nat} (h : PermN n p) : p.size = n := by
  have := h.perm.length_eq
  simpa using this
theorem PermN.lt {p : Array Nat} (h : PermN n p) {i : Nat} (hi : i < n) : p.getD i 0 < n := by
  have hs := h.size
  have e : p.getD i 0 = p.toList[i]'(by simpa [hs] using hi) := by simp [Array.getD, hs, hi]
  rw [e]
  have := h.perm.mem_iff.mp (List.getElem_mem (l := p.toList) (n := i) (by simpa [hs] using hi))
  exact List.mem_range.mp this
theorem PermN.inj {p : Array Nat} (h : PermN n p) {i j : Nat} (hi : i < n) (hj : j < n) (hij : i ≠ j) : p.getD i 0 ≠ p.getD j 0 := by
  have hs := h.size
  have nd : p.toList.Nodup := h.perm.nodup_iff.mpr List.nodup_range
  have ei : p.getD i 0 = p.toList[i]'(by simpa [hs] using hi) := by simp [Array.getD, hs, hi]
  have ej : p.getD j 0 = p.toList[j]'(by simpa [hs] using hj) := by simp [Array.getD, hs, hj]
  rw [ei, ej]
  intro e
  exact hij ((List.getElem_inj nd).mp e)
theorem PermN.of {p q : Array Nat} (h : PermN n p) (e : q.Perm p) : PermN n q := ⟨(Array.perm_iff_toList_perm.mp e).trans h.perm⟩
theorem PermN.start : PermN n (List.toArray (List.range n)) := ⟨by simp⟩

/-- the first k stand rising -/
def Rise (o : Nat → Nat → Bool) (p : Array Nat) (k : Nat) : Prop := ∀ i j, i < j → j < k → o (p.getD i 0) (p.getD j 0) = true
def Fall (o : Nat → Nat → Bool) (p : Array Nat) (k : Nat) : Prop := ∀ i j, i < j → j < k → o (p.getD j 0) (p.getD i 0) = true

theorem SOrd.flip (O : SOrd o n) {p : Array Nat} (P : PermN n p) {i j : Nat} (hi : i < n) (hj : j < n) (hij : i ≠ j) (h : o (p.getD i 0) (p.getD j 0) = false) : o (p.getD j 0) (p.getD i 0) = true := by
  rcases O.tot _ _ (P.lt hi) (P.lt hj) (P.inj hi hj hij) with e | e
  · rw [h] at e; cases e
  · exact e

theorem asc_ok (O : SOrd o n) {p : Array Nat} (P : PermN n p) : ∀ (f m : Nat), 1 ≤ m → m + f ≤ n → Rise o p m →
    KOk o n (kas_asc p f m) (fun r => m ≤ r ∧ r ≤ m + f ∧ Rise o p r ∧ (r = m + f ∨ o (p.getD r 0) (p.getD (r - 1) 0) = true))
  | 0, m, h1, _, hr => ⟨Nat.le_refl _, Nat.le_refl _, hr, .inl rfl⟩
  | f + 1, m, h1, h2, hr => by
    unfold kas_asc
    refine ⟨P.lt (by omega), P.lt (by omega), P.inj (by omega) (by omega) (by omega), ?_⟩
    cases e : o (p.getD m 0) (p.getD (m - 1) 0) with
    | true => exact ⟨Nat.le_refl _, by omega, hr, .inr e⟩
    | false =>
      dsimp only
      rw [if_neg (by simp)]
      have e' := O.flip P (by omega) (by omega) (by omega) e
      refine KOk.mono (fun r ⟨a, b, c, d⟩ => ⟨by omega, by omega, c, ?_⟩) _ (asc_ok O P f (m + 1) (by omega) (by omega) ?_)
      · intro i j hij hj
        by_cases hjm : j = m
        · subst hjm
          by_cases him : i = j - 1
          · rw [him]; exact e'
          · exact O.tr _ _ _ (P.lt (by omega)) (P.lt (by omega)) (P.lt (by omega)) (hr i (j - 1) (by omega) (by omega)) e'
        · exact hr i j hij (by omega)
      · rcases d with d | d
        · exact .inl (by omega)
        · exact .inr d

theorem desc_ok (O : SOrd o n) {p : Array Nat} (P : PermN n p) : ∀ (f m : Nat), 2 ≤ m → m + f ≤ n → Fall o p m →
    KOk o n (kas_desc f p m 0) (fun r => r.1 = p ∧ r.2.2 = 0 ∧ m ≤ r.2.1 ∧ r.2.1 ≤ m + f ∧ Fall o p r.2.1)
  | 0, m, _, _, hf => ⟨rfl, rfl, Nat.le_refl _, Nat.le_refl _, hf⟩
  | f + 1, m, h1, h2, hf => by
    unfold kas_desc
    refine ⟨P.lt (by omega), P.lt (by omega), P.inj (by omega) (by omega) (by omega), ?_⟩
    cases e : o (p.getD m 0) (p.getD (m - 1) 0) with
    | true =>
      dsimp only
      rw [if_pos rfl, if_neg (by omega)]
      refine KOk.mono (fun r ⟨a, b, c, d, g⟩ => ⟨a, b, by omega, by omega, g⟩) _ (desc_ok O P f (m + 1) (by omega) (by omega) ?_)
      intro i j hij hj
      by_cases hjm : j = m
      · subst hjm
        by_cases him : i = j - 1
        · rw [him]; exact e
        · exact O.tr _ _ _ (P.lt (by omega)) (P.lt (by omega)) (P.lt (by omega)) e (hf i (j - 1) (by omega) (by omega))
      · exact hf i j hij (by omega)
    | false =>
      dsimp only
      rw [if_neg (by simp)]
      have e' := O.flip P (by omega) (by omega) (by omega) e
      refine ⟨P.lt (by omega), P.lt (by omega), P.inj (by omega) (by omega) (by omega), ?_⟩
      dsimp only
      rw [if_pos e']
      exact ⟨rfl, rfl, Nat.le_refl _, Nat.le_add_right _ _, hf⟩

theorem getD_of {p : Array Nat} {i : Nat} : p.getD i 0 = (p[i]?).getD 0 := by
  simp [Array.getD_eq_getD_getElem?]

theorem rev_rise {p : Array Nat} {m : Nat} (hm : m ≤ p.size) (hf : Fall o p m) : Rise o (kas_rev p 0 m) m := by
  intro i j hij hj
  have key : ∀ k, k < m → (kas_rev p 0 m).getD k 0 = p.getD (m - 1 - k) 0 := fun k hk => by
    rw [getD_of, getD_of]
    unfold kas_rev
    rw [Nat.sub_zero]
    have q := getElem?_mirror_all (xs := p) (i := 0) (j := m) hm k
    rw [Nat.sub_zero] at q
    rw [q, if_pos ⟨Nat.zero_le _, hk⟩, Nat.zero_add]
  rw [key i (by omega), key j hj]
  exact hf _ _ (by omega) (by omega)
theorem rev_perm {p : Array Nat} (P : PermN n p) (i j : Nat) : PermN n (kas_rev p i j) := P.of (mirror_perm _ _ _ _)

theorem tail3_ok (O : SOrd o n) {p : Array Nat} (P : PermN n p) {m : Nat} (h1 : 1 ≤ m) (h2 : m ≤ n) (hf : Fall o p m) :
    KOk o n (kas_tail3 m n p) (fun r => 1 ≤ r.1 ∧ r.1 ≤ n ∧ PermN n r.2 ∧ Rise o r.2 r.1) := by
  unfold kas_tail3
  refine KOk.bind _ (KOk.mono (fun r ⟨a, b, c, _⟩ => ?_) _ (asc_ok O (rev_perm P 0 m) (n - m) m h1 (by omega) (rev_rise (by rw [P.size]; exact h2) hf)))
  exact ⟨by show 1 ≤ r; omega, by show r ≤ n; omega, rev_perm P 0 m, c⟩

theorem count_ok (O : SOrd o n) {p : Array Nat} (P : PermN n p) (hn : 1 ≤ n) : KOk o n (kas_count n p) (fun r => 1 ≤ r.1 ∧ r.1 ≤ n ∧ PermN n r.2 ∧ Rise o r.2 r.1) := by
  unfold kas_count
  refine KOk.bind _ (KOk.mono (fun m ⟨a, b, c, d⟩ => ?_) _ (asc_ok O P (n - 1) 1 (Nat.le_refl _) (by omega) (fun i j hij hj => by omega)))
  by_cases e : m = n
  · rw [if_pos (by simp [e])]
    exact ⟨by omega, by omega, P, c⟩
  · rw [if_neg (by simp [e])]
    by_cases hm : m > 1
    · rw [if_pos hm]
      refine ⟨P.lt (by omega), P.lt (by omega), P.inj (by omega) (by omega) (by omega), ?_⟩
      dsimp only
      rw [if_pos (c 0 (m - 1) (by omega) (by omega))]
      exact ⟨by omega, by omega, P, c⟩
    · rw [if_neg hm]
      have hm1 : m = 1 := by omega
      subst hm1
      have d' : o (p.getD 1 0) (p.getD 0 0) = true := by
        rcases d with d | d
        · omega
        · exact d
      unfold kas_descPart
      refine KOk.bind _ (KOk.mono (fun r ⟨a1, a2, a3, a4, a5⟩ => ?_) _ (desc_ok O P (n - (1 + 1)) (1 + 1) (by omega) (by omega) ?_))
      · intro i j hij hj
        have : i = 0 := by omega
        have : j = 1 := by omega
        subst i j
        exact d'
      · rw [if_neg (by omega)]
        rw [a1]
        exact tail3_ok O P (by omega) (by omega) a5

theorem place_ok (O : SOrd o n) {p : Array Nat} (P : PermN n p) {k : Nat} (hk : k < n) (hr : Rise o p k) : ∀ (f l r : Nat), r - l ≤ f → l ≤ r → r ≤ k →
    (∀ i, i < l → o (p.getD i 0) (p.getD k 0) = true) → (∀ i, r ≤ i → i < k → o (p.getD k 0) (p.getD i 0) = true) →
    KOk o n (kas_place p k f l r) (fun q => q ≤ k ∧ (∀ i, i < q → o (p.getD i 0) (p.getD k 0) = true) ∧ ∀ i, q ≤ i → i < k → o (p.getD k 0) (p.getD i 0) = true)
  | 0, l, r, h0, h1, h2, ha, hb => by
    have : r = l := by omega
    subst this
    exact ⟨h2, ha, hb⟩
  | f + 1, l, r, h0, h1, h2, ha, hb => by
    unfold kas_place
    by_cases hlr : l ≥ r
    · rw [if_pos hlr]
      have : r = l := by omega
      subst this
      exact ⟨h2, ha, hb⟩
    · rw [if_neg hlr]
      have hm1 : l ≤ (l + r) / 2 := by omega
      have hm2 : (l + r) / 2 < r := by omega
      refine ⟨P.lt hk, P.lt (by omega), P.inj hk (by omega) (by omega), ?_⟩
      cases e : o (p.getD k 0) (p.getD ((l + r) / 2) 0) with
      | true =>
        dsimp only
        rw [if_pos rfl]
        refine place_ok O P hk hr f l _ (by omega) hm1 (by omega) ha fun i hi hik => ?_
        by_cases hi2 : i = (l + r) / 2
        · rw [hi2]; exact e
        · exact O.tr _ _ _ (P.lt hk) (P.lt (by omega)) (P.lt (by omega)) e (hr _ i (by omega) hik)
      | false =>
        dsimp only
        rw [if_neg (by simp)]
        have e' := O.flip P hk (by omega) (by omega) e
        refine place_ok O P hk hr f _ r (by omega) (by omega) h2 (fun i hi => ?_) hb
        by_cases hi2 : i = (l + r) / 2
        · rw [hi2]; exact e'
        · exact O.tr _ _ _ (P.lt (by omega)) (P.lt (by omega)) (P.lt hk) (hr i ((l + r) / 2) (by omega) (by omega)) e'

theorem bubble_rise (O : SOrd o n) {p : Array Nat} (P : PermN n p) {k l : Nat} (hk : k < n) (hr : Rise o p k) (hl : l ≤ k) (ha : ∀ i, i < l → o (p.getD i 0) (p.getD k 0) = true) (hb : ∀ i, l ≤ i → i < k → o (p.getD k 0) (p.getD i 0) = true) :
    Rise o (bubble p k (k - l)) (k + 1) := by
  have key : ∀ i, (bubble p k (k - l)).getD i 0 = if i = l then p.getD k 0 else if l < i ∧ i ≤ k then p.getD (i - 1) 0 else p.getD i 0 := fun i => by
    rw [getD_of, getElem?_bubble (by rw [P.size]; exact hk) (k - l) (by omega)]
    have e : k - (k - l) = l := by omega
    rw [e]
    by_cases h1 : i = l
    · rw [if_pos h1, if_pos h1, getD_of]
    · rw [if_neg h1, if_neg h1]
      by_cases h2 : l < i ∧ i ≤ k
      · rw [if_pos h2, if_pos h2, getD_of]
      · rw [if_neg h2, if_neg h2, getD_of]
  intro i j hij hj
  rw [key i, key j]
  by_cases i1 : i = l
  · rw [if_pos i1, if_neg (by omega), if_pos (by omega)]
    exact hb _ (by omega) (by omega)
  · rw [if_neg i1]
    by_cases j1 : j = l
    · rw [if_pos j1, if_neg (by omega)]
      exact ha i (by omega)
    · rw [if_neg j1]
      by_cases i2 : l < i ∧ i ≤ k
      · rw [if_pos i2, if_pos (by omega)]
        exact hr _ _ (by omega) (by omega)
      · rw [if_neg i2]
        by_cases j2 : l < j ∧ j ≤ k
        · rw [if_pos j2]
          by_cases e : i = j - 1
          · omega
          · exact hr _ _ (by omega) (by omega)
        · rw [if_neg j2]
          exact hr _ _ hij (by omega)

theorem bin_ok (O : SOrd o n) : ∀ (f : Nat) {p : Array Nat} (P : PermN n p) (k : Nat), k + f = n → Rise o p k → KOk o n (kas_bin f p k) (fun q => PermN n q ∧ Rise o q n)
  | 0, p, P, k, e, hr => by
    have : k = n := by omega
    subst this
    exact ⟨P, hr⟩
  | f + 1, p, P, k, e, hr => by
    unfold kas_bin
    refine KOk.bind _ (KOk.mono (fun l ⟨a, b, c⟩ => ?_) _ (place_ok O P (k := k) (by omega) hr k 0 k (by omega) (Nat.zero_le _) (Nat.le_refl _) (fun i hi => by omega) (fun i h1 h2 => by omega)))
    exact bin_ok O f (P.of (bubble_perm _ _ _)) (k + 1) (by omega) (bubble_rise O P (by omega) hr a b c)

theorem sort_ok (O : SOrd o n) (hn : 1 ≤ n) : KOk o n (kas_sort n) (fun q => PermN n q ∧ Rise o q n) := by
  unfold kas_sort
  refine KOk.bind _ (KOk.mono (fun r ⟨a, b, c, d⟩ => ?_) _ (count_ok O PermN.start hn))
  by_cases h : r.1 < n
  · rw [if_pos h]
    have e : max r.1 1 = r.1 := by omega
    rw [e]
    exact bin_ok O _ c _ (by omega) d
  · rw [if_neg h]
    have : r.1 = n := by omega
    rw [this] at d
    exact ⟨c, d⟩
end
end L2

/-! MY OWN RULES. 3: sorted(..) of tuples that begin with ints, with and without a key -/
namespace L2
open PySem PySem.W PyProof.Rows

section
variable {prog : Program} {w : World} {A : Around} {E : Value → Shared → Prop} {s : Shared}

/-- the keys can be compared where they stand, and o tells the answers -/
def KeysAt (prog : Program) (w : World) (A : Around) (ks : List Value) (o : Nat → Nat → Bool) (s : Shared) : Prop :=
  ∃ κ, (∀ (Q : SortKind → Shared → Prop) (E : Value → Shared → Prop), Q κ s → wpAny (model prog w) A (keyKind' ks.toArray) Q E s) ∧
    ∀ i j, i < ks.length → j < ks.length → i ≠ j → ∀ C : Bool → Shared → Prop, C (o i j) s → kas_ask prog w A κ ks i j C s

/-- the heart: kind and runs -/
theorem sort_heart {ks vs : List Value} {o : Nat → Nat → Bool} {β : Type} {Q : β → Shared → Prop} {f : Unit × SortSt → Sem β} (hl : ks.length = vs.length) (h64 : vs.length < 64) (O : SOrd o vs.length) (hk : 2 ≤ vs.length → KeysAt prog w A ks o s)
    (h : ∀ (p : Array Nat) (st : SortSt), PermN vs.length p → Rise o p vs.length → arrOf st = p.map (kas_item (ks.toArray.zip vs.toArray)) → failedOf st = none → wpAny (model prog w) A (f ((), st)) Q E s) :
    wpAny (model prog w) A (do
      let kind ← if vs.toArray.size < 2 then pure general' else keyKind' ks.toArray
      let r ← (if vs.toArray.size < 2 then pure () else sortRuns').run (SortSt.mk' kind (ks.toArray.zip vs.toArray) #[] 7 none)
      f r) Q E s := by
  by_cases h2 : vs.toArray.size < 2
  · rw [if_pos h2, if_pos h2]
    have h2' : vs.length < 2 := by simpa using h2
    refine wpAny_bind (wpAny_pure ?_)
    dsimp only
    rw [StateT.run_pure]
    refine wpAny_bind (wpAny_pure (h (List.toArray (List.range vs.length)) _ PermN.start (fun i j hij hj => by omega) ?_ rfl))
    have e := kas_range (ks.toArray.zip vs.toArray)
    rw [show (ks.toArray.zip vs.toArray).size = vs.length by simp [hl]] at e
    exact e.symm
  · rw [if_neg h2, if_neg h2]
    have h2' : 2 ≤ vs.length := by
      have : ¬ vs.length < 2 := by simpa using h2
      omega
    obtain ⟨κ, hκ, hc⟩ := hk h2'
    refine wpAny_bind (hκ _ _ ?_)
    have tree : (kas_sort vs.length).kasWp (kas_ask prog w A κ ks) (fun p s' => s' = s ∧ PermN vs.length p ∧ Rise o p vs.length) s :=
      KOk.wp (fun i j hi hj hij C hC => hc i j (by omega) (by omega) hij C hC) (fun p hp => ⟨rfl, hp.1, hp.2⟩) _ (sort_ok O (by omega))
    refine wpAny_bind (wpAny_mono (kat_run (E := E) (Q := fun st s' => ∃ p : Array Nat, s' = s ∧ PermN vs.length p ∧ Rise o p vs.length ∧ arrOf st = p.map (kas_item (ks.toArray.zip vs.toArray)) ∧ failedOf st = none) hl h2' h64
      (fun p st s' _ a2 a3 a4 => ⟨p, a4.1, a4.2.1, a4.2.2, a2, a3⟩) tree) ?_ fun _ _ e => e)
    rintro ⟨⟨⟩, st⟩ s' ⟨p, rfl, hp, hr, ha, hf⟩
    exact h p st hp hr ha hf

theorem out_items {ks vs : List Value} (hl : ks.length = vs.length) {st : SortSt} {p : Array Nat} (har : arrOf st = p.map (kas_item (ks.toArray.zip vs.toArray))) : (arrOf st).map (·.2) = List.toArray (p.toList.map fun i => vs.getD i Value.none) := kat_snds hl har

/-- D.sort() of a list -/
theorem sort_plain {D : Addr} {vs : List Value} {n : Nat} {o : Nat → Nat → Bool} {P : PySem.Fin → Shared → Prop} (ho : s.heap.get? D = some (seqObj "list" vs.toArray n)) (h64 : vs.length < 64) (O : SOrd o vs.length)
    (hk : 2 ≤ vs.length → ∀ h' : Heap, (∀ b u, b ≠ D → s.heap.get? b = some u → h'.get? b = some u) → KeysAt prog w A vs o { s with heap := h' })
    (h : ∀ (h' : Heap) (p : Array Nat) (c : Nat), PermN vs.length p → Rise o p vs.length → (∀ b u, b ≠ D → s.heap.get? b = some u → h'.get? b = some u) → h'.get? D = some (seqObj "list" (List.toArray (p.toList.map fun i => vs.getD i Value.none)) c) → P (.done (.ret .none)) { s with heap := h' }) :
    wpAny (model prog w) A (Builtin.«list.sort» ⟨[.ref D], []⟩) P E s := by
  have hD : D < s.heap.objs.size := Heap.lt_size ho
  have s1 := Heap.SameBut.update s.heap D (Obj.mapSeq fun _ => (#[] : Array Value))
  obtain ⟨e1, ho1⟩ : ∃ e1, (s.heap.update D (Obj.mapSeq fun _ => (#[] : Array Value))).get? D = some (seqObj "list" #[] e1) := ⟨_, get?_update_seq ho fun _ => #[]⟩
  have line : vs.length ≤ sizeLine := by rw [sizeLine_eq]; omega
  rw [list_sort_plain]
  refine wpAny_bind (listItems_at ho rfl ?_)
  refine wpAny_bind (listUpdate_at ho rfl ?_ (by rw [List.size_toArray]; exact line) (Nat.zero_le _))
  refine wpAny_bind (seqEpoch_at ho1 rfl (wpAny_bind (wpAny_newTuple ?_ line)))
  refine wpAny_bind (wpAny_newList (wpAny_holding ?_) (Nat.zero_le _))
  dsimp only
  generalize hg : ((s.heap.update D (Obj.mapSeq fun _ => (#[] : Array Value))).push _).push _ = h2
  have ho2 : h2.get? D = some (seqObj "list" #[] e1) := by rw [← hg]; exact Heap.get?_push_of_some _ (Heap.get?_push_of_some _ ho1)
  have kp : ∀ b u, b ≠ D → s.heap.get? b = some u → h2.get? b = some u := fun b u hb e => by rw [← hg]; exact Heap.get?_push_of_some _ (Heap.get?_push_of_some _ ((s1.2 b hb).trans e))
  refine sort_heart (s := { s with heap := h2 }) rfl h64 O (fun z => hk z h2 kp) fun p st hp hr ha hf => ?_
  dsimp only
  have hsz : (List.toArray (p.toList.map fun i => vs.getD i Value.none)).size = vs.length := by rw [List.size_toArray, List.length_map, Array.length_toList, hp.size]
  rw [out_items rfl ha]
  have s2 := Heap.SameBut.update h2 D (Obj.mapSeq fun _ => List.toArray (p.toList.map fun i => vs.getD i Value.none))
  refine wpAny_bind (seqEpoch_at ho2 rfl ?_)
  refine wpAny_bind (listUpdate_at ho2 rfl ?_ (Nat.zero_le _) (Nat.le_trans (Nat.le_of_eq hsz) (Nat.le_succ_of_le line)))
  rw [hf]
  simp only [bne_self_eq_false, Bool.false_eq_true, if_false]
  exact wpAny_pure (h _ p _ hp hr (fun b u hb e => (s2.2 b hb).trans (kp b u hb e)) (get?_update_seq ho2 fun _ => List.toArray (p.toList.map fun i => vs.getD i Value.none)))

/-- sorted(x), x any iterable whose items are collected -/
theorem sorted_from {x : Value} {xs : List V} {o : Nat → Nat → Bool} {Q : Value → Shared → Prop} (h64 : xs.length < 64) (O : SOrd o xs.length)
    (hcol : ∀ (R : List Value → Shared → Prop) (E : Value → Shared → Prop), (∀ (h' : Heap) (tk : Nat) (vs : List Value), Vals xs vs → (∀ b u, s.heap.get? b = some u → h'.get? b = some u) → R vs { s with heap := h', toks := tk }) → wpAny (model prog w) A.in1 (collect x) R E s)
    (hk : 2 ≤ xs.length → ∀ (h' : Heap) (tk : Nat) (vs : List Value), Vals xs vs → (∀ b u, s.heap.get? b = some u → h'.get? b = some u) → KeysAt prog w A.in1.in1 vs o { s with heap := h', toks := tk })
    (h : ∀ (D : Addr) (h1 h' : Heap) (tk : Nat) (vs : List Value) (p : Array Nat) (c : Nat), Vals xs vs → PermN xs.length p → Rise o p xs.length → (∀ b u, s.heap.get? b = some u → h1.get? b = some u) → h1.objs.size ≤ D → (∀ b u, h1.get? b = some u → h'.get? b = some u) →
      h'.get? D = some (seqObj "list" (List.toArray (p.toList.map fun i => vs.getD i Value.none)) c) → Q (.ref D) { s with heap := h', toks := tk }) :
    wpAny (model prog w) A (call (.builtin "sorted") [x]) Q E s := by
  refine Calls.call_function_entry kind_sorted plain_sorted entry_sorted (args_sorted1 _) ?_
  unfold Builtin.«sorted»
  refine wpAny_bind (m := checkCount "sorted" 1 1 _) (wpAny_pure (wpAny_bind (hcol _ _ fun h1 tk vs rv k1 => ?_)))
  have hl : xs.length = vs.length := rv.length
  have line : vs.length ≤ sizeLine := by rw [sizeLine_eq]; omega
  refine wpAny_bind (wpAny_newList ?_ line)
  have hoL : (h1.push { cls := .type "list", data := .seq vs.toArray }).get? h1.objs.size = some (seqObj "list" vs.toArray 0) := Heap.get?_push_size _ rfl
  refine wpAny_bind (wpAny_holding (wpAny_call_entry slot_list_sort ⟨_, hoL, rfl⟩ entry_list_sort ?_ (args_list_sort _)))
  have nD : ∀ b u, s.heap.get? b = some u → b ≠ h1.objs.size := fun b u e => Nat.ne_of_lt (Heap.lt_size (k1 b u e))
  refine sort_plain (s := { s with heap := h1.push { cls := .type "list", data := .seq vs.toArray }, toks := tk }) (o := o) hoL (by omega) (by rw [← hl]; exact O) (fun z h' kp => hk (by omega) h' tk vs rv fun b u e => kp b u (nD b u e) (Heap.get?_push_of_some _ (k1 b u e))) fun h' p c hp hr kp hD => ?_
  exact ⟨_, rfl, wpAny_pure ⟨_, rfl, h _ h1 h' tk vs p c rv (by rw [hl]; exact hp) (by rw [hl]; exact hr) k1 (Nat.le_refl _) (fun b u e => kp b u (Nat.ne_of_lt (Heap.lt_size e)) (Heap.get?_push_of_some _ e)) hD⟩⟩

/-! ### keys that are tuples beginning with ints -/
theorem lex_ints {b fin : Bool} {Q : Bool → Shared → Prop} : ∀ (ns ms : List Int) (us ws : List Value) (ta tb : List V) (i : Nat), Vals (ns.map V.int ++ ta) us → Vals (ms.map V.int ++ tb) ws → ns.length = ms.length → ns ≠ ms → Q (HT.lexLt ns ms) s →
    KatLex prog w A b fin Q (us.zip ws) i s
  | [], [], _, _, _, _, _, _, _, _, hne, _ => absurd rfl hne
  | [], _ :: _, _, _, _, _, _, _, _, hl, _, _ => by simp at hl
  | _ :: _, [], _, _, _, _, _, _, _, hl, _, _ => by simp at hl
  | x :: ns, y :: ms, us, ws, ta, tb, i, r1, r2, hl, hne, hq => by
    cases r1 with
    | cons a1 r1 =>
      cases r2 with
      | cons a2 r2 =>
        obtain ⟨t, rfl⟩ := a1
        obtain ⟨u, rfl⟩ := a2
        rw [List.zip_cons_cons]
        refine kat_cons (wpAny_eqBool_int ?_)
        rw [HT.lexLt_cons] at hq
        by_cases e : x = y
        · subst e
          rw [if_pos rfl] at hq
          rw [show (x == x) = true by simp]
          refine kat_yes (lex_ints ns ms _ _ ta tb (i + 1) r1 r2 (by simpa using hl) (fun z => hne (by rw [z])) hq)
        · rw [if_neg e] at hq
          rw [show (x == y) = false by simp [e]]
          refine kat_no ?_
          cases (b && i == 0) with
          | true => exact oneLt_int hq
          | false => exact kat_one _ _ (lt_int (show PySem.W.BoolBack Q (.bool (decide (x < y))) s from hq))

/-- the tuples behind the keys, as they stand -/
def TupKeys (h : Heap) (ks : List Value) (nss : List (List Int)) : Prop := Paired (fun (k : Value) (ns : List Int) => ∃ a us ta, k = .ref a ∧ IsTup h a (List.toArray us) ∧ Vals (ns.map V.int ++ ta) us) ks nss
theorem TupKeys.get {h : Heap} : ∀ {ks : List Value} {nss : List (List Int)}, TupKeys h ks nss → ∀ i, i < ks.length → ∃ a us ta, ks.getD i .none = .ref a ∧ IsTup h a (List.toArray us) ∧ Vals ((nss.getD i []).map V.int ++ ta) us
  | _, _, .nil, i, hi => by simp at hi
  | _, _, .cons r _, 0, _ => r
  | _, _, .cons _ t, i + 1, hi => TupKeys.get t i (by simpa using hi)
theorem TupKeys.firsts {h : Heap} : ∀ {ks : List Value} {nss : List (List Int)}, TupKeys h ks nss → (∀ ns ∈ nss, ns ≠ []) → ∃ fs, KatTups h ks fs ∧ fs.length = ks.length ∧ ∀ v ∈ fs, ∃ x t, v = Value.int x t
  | _, _, .nil, _ => ⟨[], trivial, rfl, fun v hv => by simp at hv⟩
  | k :: ks, ns :: nss, .cons r t, hne => by
    obtain ⟨a, us, ta, rfl, ⟨o, ho, hc, n, hd⟩, rv⟩ := r
    obtain ⟨fs, h1, h2, h3⟩ := TupKeys.firsts (ks := ks) (nss := nss) t fun z hz => hne z (List.mem_cons_of_mem _ hz)
    have hn0 := hne ns List.mem_cons_self
    cases ns with
    | nil => exact absurd rfl hn0
    | cons x ns =>
      cases rv with
      | cons a1 rv =>
        obtain ⟨t', rfl⟩ := a1
        refine ⟨.int x t' :: fs, KatTups.cons ho hc hd (by simp) h1, by simp [h2], fun v hv => ?_⟩
        rcases List.mem_cons.mp hv with rfl | hv
        · exact ⟨x, t', rfl⟩
        · exact h3 v hv

theorem keysAt_tuples {ks : List Value} {nss : List (List Int)} {k : Nat} (T : TupKeys s.heap ks nss) (hne : 0 < ks.length) (hk : 0 < k) (hlen : ∀ ns ∈ nss, ns.length = k) (hd : nss.Pairwise (· ≠ ·)) :
    KeysAt prog w A ks (fun i j => HT.lexLt (nss.getD i []) (nss.getD j [])) s := by
  have hl : ks.length = nss.length := Paired.length T
  obtain ⟨fs, h1, h2, h3⟩ := T.firsts fun ns hns e => by have := hlen ns hns; rw [e] at this; simp at this; omega
  refine ⟨tuples' (Value.type "int" != Value.type "tuple"), fun Q E q => kat_kind h1 (by omega) (T := .type "int") (fun v hv => ?_) (by decide) q, fun i j hi hj hij C hC => ?_⟩
  · obtain ⟨x, t, rfl⟩ := h3 v hv
    exact Looks.now
  · obtain ⟨a, us, ta, e1, ⟨oa, ha, ca, na, da⟩, r1⟩ := T.get i hi
    obtain ⟨c, ws, tc, e2, ⟨oc, hc, cc, nc, dc⟩, r2⟩ := T.get j hj
    unfold kas_ask
    rw [e1, e2]
    have mi : nss.getD i [] ∈ nss := by
      have hi' : i < nss.length := by omega
      rw [show nss.getD i [] = nss[i] by simp [hi']]
      exact List.getElem_mem _
    have mj : nss.getD j [] ∈ nss := by
      have hj' : j < nss.length := by omega
      rw [show nss.getD j [] = nss[j] by simp [hj']]
      exact List.getElem_mem _
    have hd' : nss.getD i [] ≠ nss.getD j [] := by
      have hi' : i < nss.length := by omega
      have hj' : j < nss.length := by omega
      rw [show nss.getD i [] = nss[i] by simp [hi'], show nss.getD j [] = nss[j] by simp [hj']]
      rcases Nat.lt_or_gt_of_ne hij with z | z
      · exact List.pairwise_iff_getElem.mp hd i j hi' hj' z
      · exact (List.pairwise_iff_getElem.mp hd j i hj' hi' z).symm
    refine kat_lt ha da hc dc ?_
    simp only [List.toList_toArray]
    exact lex_ints _ _ _ _ ta tc 0 r1 r2 (by rw [hlen _ mi, hlen _ mj]) hd' hC

theorem lexLt_irr : ∀ ns : List Int, HT.lexLt ns ns = false
  | [] => rfl
  | x :: r => by rw [HT.lexLt_cons, if_pos rfl]; exact lexLt_irr r
theorem lexLt_tr : ∀ {a b c : List Int}, HT.lexLt a b = true → HT.lexLt b c = true → HT.lexLt a c = true
  | [], [], _, h, _ => by rw [HT.lexLt_nil_nil] at h; cases h
  | [], _ :: _, [], _, h => by rw [HT.lexLt_cons_nil] at h; cases h
  | [], _ :: _, _ :: _, _, _ => HT.lexLt_nil_cons _ _
  | _ :: _, [], _, h, _ => by rw [HT.lexLt_cons_nil] at h; cases h
  | _ :: _, _ :: _, [], _, h => by rw [HT.lexLt_cons_nil] at h; cases h
  | x :: a, y :: b, z :: c, h1, h2 => by
    rw [HT.lexLt_cons] at h1 h2 ⊢
    by_cases e1 : x = y
    · subst e1
      rw [if_pos rfl] at h1
      by_cases e2 : x = z
      · rw [if_pos e2] at h2 ⊢
        exact lexLt_tr h1 h2
      · rw [if_neg e2] at h2 ⊢
        exact h2
    · rw [if_neg e1] at h1
      have h1' := of_decide_eq_true h1
      by_cases e2 : y = z
      · subst e2
        rw [if_neg e1]
        exact h1
      · rw [if_neg e2] at h2
        have h2' := of_decide_eq_true h2
        rw [if_neg (by omega)]
        exact decide_eq_true (by omega)
theorem lexLt_tot : ∀ {a b : List Int}, a ≠ b → HT.lexLt a b = true ∨ HT.lexLt b a = true
  | [], [], h => absurd rfl h
  | [], _ :: _, _ => .inl (HT.lexLt_nil_cons _ _)
  | _ :: _, [], _ => .inr (HT.lexLt_nil_cons _ _)
  | x :: a, y :: b, h => by
    rw [HT.lexLt_cons, HT.lexLt_cons]
    by_cases e : x = y
    · subst e
      rw [if_pos rfl, if_pos rfl]
      exact lexLt_tot fun z => h (by rw [z])
    · rw [if_neg e, if_neg (Ne.symm e)]
      by_cases l : x < y
      · exact .inl (decide_eq_true l)
      · exact .inr (decide_eq_true (by omega))
theorem sOrd_lex {nss : List (List Int)} (hd : nss.Pairwise (· ≠ ·)) : SOrd (fun i j => HT.lexLt (nss.getD i []) (nss.getD j [])) nss.length where
  irr := fun i _ => lexLt_irr _
  tr := fun i j k _ _ _ h1 h2 => lexLt_tr h1 h2
  tot := fun i j hi hj hij => lexLt_tot (by
    rw [show nss.getD i [] = nss[i] by simp [hi], show nss.getD j [] = nss[j] by simp [hj]]
    rcases Nat.lt_or_gt_of_ne hij with z | z
    · exact List.pairwise_iff_getElem.mp hd i j hi hj z
    · exact (List.pairwise_iff_getElem.mp hd j i hj hi z).symm)

/-- from the tree's places to the items -/
theorem perm_items {α : Type} {xs : List α} {d : α} {p : Array Nat} (P : PermN xs.length p) : (p.toList.map fun i => xs.getD i d).Perm xs := by
  have h := P.perm.map (fun i => xs.getD i d)
  have e : (List.range xs.length).map (fun i => xs.getD i d) = xs := by
    apply List.ext_getElem
    · simp
    · intro i h1 h2
      simp at h1 ⊢
      simp [h1]
  rw [e] at h
  exact h
theorem rise_items {α : Type} {xs : List α} {d : α} {p : Array Nat} {o : Nat → Nat → Bool} {R : α → α → Prop} (P : PermN xs.length p) (hr : Rise o p xs.length) (ho : ∀ i j, i < xs.length → j < xs.length → o i j = true → R (xs.getD i d) (xs.getD j d)) :
    (p.toList.map fun i => xs.getD i d).Pairwise R := by
  rw [List.pairwise_map, List.pairwise_iff_getElem]
  intro i j hi hj hij
  have hs := P.size
  have hi' : i < xs.length := by simpa [hs] using hi
  have hj' : j < xs.length := by simpa [hs] using hj
  have e1 : p.getD i 0 = p.toList[i] := by simp [Array.getD, hs, hi']
  have e2 : p.getD j 0 = p.toList[j] := by simp [Array.getD, hs, hj']
  have := hr i j hij hj'
  rw [e1, e2] at this
  exact ho _ _ (by rw [← e1]; exact P.lt hi') (by rw [← e2]; exact P.lt hj') this
end
end L2

/-! MY OWN RULES. 4: bound methods as values; sorted(.., key = a bound method) -/
namespace L2
open PySem PySem.Spec PyProof.Rows

section
variable {X : Cx} {pins : List (Addr × Obj)} {σ : St} {H : Hp} {s : Shared}

/-- several records of ours have turned -/
theorem Inv.turns {fp : List Addr} {h' : Heap} {t' : Nat} (I : Inv X pins σ H s) (hf : ∀ b ∈ fp, FpOk X pins H b) (k : ∀ b o, b ∉ fp → s.heap.get? b = some o → h'.get? b = some o) : Inv X pins σ H { s with heap := h', toks := t' } := by
  have nfp : ∀ b u, H b = some u → b ∉ fp := fun b u e z => by rw [(hf b z).1] at e; cases e
  refine I.step (g' := s.gens) (d' := s.drawn) (ch := fp) (fun b hb => ?_) (fun b o _ _ hc e _ => k b o hc e) (fun b o _ _ hc e _ => ⟨o.slots, k b o hc e⟩) (fun _ _ _ _ n => n)
    (fun b o hc e => ⟨o, k b o hc e⟩) (fun _ _ e => e) (fun _ _ _ e => e) (fun b ps e => ⟨#[], by rw [e]; simp⟩) (fun m hm => ?_) (fun b u e => ?_) I.bare
  · obtain ⟨_, g1, _, g3, g4, g5⟩ := hf b hb
    exact ⟨g3, g1, g4, g5⟩
  · obtain ⟨o, es, ep, ho, r⟩ := hm
    exact ⟨o, es, ep, k _ o (fun z => (hf _ z).2.1 rfl) ho, r⟩
  · refine (I.hok b u e).stay (fun c v hc q => k c v ?_ q) (fun _ q => q) fun _ _ q => q
    rcases hc with z | z
    · rw [z]; exact nfp b u e
    · exact nfp c _ z

/-- an object of ours that was not tracked is tracked now -/
theorem Inv.track {D : Addr} {o : HO} (I : Inv X pins σ H s) (f : FpOk X pins H D) (new : ObjOk X.prog X.w (upd H D o) s.heap D o) : Inv X pins σ (upd H D o) s := by
  obtain ⟨f0, f1, f2, f3, f4, f5⟩ := f
  refine ⟨I.ok, I.os, I.bare, ⟨I.base.keep, I.base.slot, fun b ob e n hx => ?_, I.base.there, fun b xs e => ?_, fun b ob xs e => ?_, fun b ps e => ?_⟩, I.loc, I.cell, ?_, fun x c e => ?_, fun p hp => ?_, fun b ob e => ?_, I.len⟩
  · have hb : b ≠ D := fun z => by
      subst z
      rcases f3 with z | z
      · exact hx z
      · exact absurd (Nat.lt_of_lt_of_le (Heap.lt_size e) z) (Nat.lt_irrefl _)
    rw [upd_ne hb]; exact I.base.free b ob e n hx
  · have q := I.base.tups b xs e
    rw [upd_ne (ne_of_none q f0)]; exact q
  · have q := I.base.frzs b ob xs e
    rw [upd_ne (ne_of_none q f0)]; exact q
  · obtain ⟨m, q⟩ := I.base.tbls b ps e
    exact ⟨m, by rw [upd_ne (ne_of_none q f0)]; exact q⟩
  · rw [upd_ne (Ne.symm f1)]; exact I.free
  · rw [upd_ne (f4 x c e)]; exact I.freeC x c e
  · obtain ⟨a1, a2, a3, a4, a5⟩ := I.pin p hp
    exact ⟨a1, by rw [upd_ne (f5 p hp)]; exact a2, a3, a4, a5⟩
  · by_cases hb : b = D
    · subst hb
      rw [upd_same] at e; cases e
      exact new
    · rw [upd_ne hb] at e
      exact (I.hok b ob e).stay (fun _ _ _ q => q) (fun c q => by rw [upd_ne (ne_of_none q f0)]; exact q) fun c xs q => by rw [upd_ne (ne_of_none q f0)]; exact q


/-- a pinned record of ours is changed: another pin -/
theorem Inv.repin {D : Addr} {o o' : Obj} {h' : Heap} {t' : Nat} {more : List (Addr × Obj)} (I : Inv X (pins ++ ((D, o) :: more)) σ H s) (f : FpOk X (pins ++ more) H D) (k : ∀ b u, b ≠ D → s.heap.get? b = some u → h'.get? b = some u) (e : h'.get? D = some o') (hd : ∀ v, o'.data ≠ .cell v) :
    Inv X (pins ++ ((D, o') :: more)) σ H { s with heap := h', toks := t' } := by
  obtain ⟨f0, f1, f2, f3, f4, f5⟩ := f
  have I1 : Inv X (pins ++ more) σ H s := I.pins_of fun p hp => I.pin p (List.mem_append_right _ (by
    rcases List.mem_append.mp hp with z | z
    · exact List.mem_append_left _ z
    · exact List.mem_append_right _ (List.mem_cons_of_mem _ z)))
  have I2 : Inv X (pins ++ more) σ H { s with heap := h', toks := t' } := I1.turned (fun b u hb q => k b u hb q) f0 f1 f3 f4 f5
  refine I2.pins_of fun p hp => ?_
  rcases List.mem_append.mp hp with z | z
  · exact I2.pin p (List.mem_append_right _ (List.mem_append_left _ z))
  · rcases List.mem_cons.mp z with z | z
    · rw [z]; exact ⟨e, f0, f1, f2, hd⟩
    · exact I2.pin p (List.mem_append_right _ (List.mem_append_right _ z))
theorem Inv.pin1 {D : Addr} {o : Obj} (I : Inv X pins σ H s) (f : FpOk X pins H D) (e : s.heap.get? D = some o) (hd : ∀ v, o.data ≠ .cell v) : Inv X (pins ++ [(D, o)]) σ H s := I.pins_of fun p hp => by
  rcases List.mem_append.mp hp with z | z
  · exact I.pin p (List.mem_append_right _ z)
  · rw [List.mem_singleton.mp z]; exact ⟨e, f.1, f.2.1, f.2.2.1, hd⟩
theorem FpOk.heap {D : Addr} {H' : Hp} (f : FpOk X pins H D) (h : H' D = none) : FpOk X pins H' D := ⟨h, f.2⟩

/-! ### o.m as a value -/
structure MethV (K : PySem.W.Frag) (C : Addr) (m : Str) (g : Addr) : Prop extends Meth K C m g where
  get : PySem.W.specialIn K (.ref g) "__get__" = some (some (.builtin "function.__get__"))
  tk : PySem.W.takesIn K (.ref g) = some false
  cp : PySem.W.copiedNames.contains m = false

theorem getbound_ok {A : Around} {E : Value → Shared → Prop} {a C dx g : Addr} {fs : List (Str × V)} {m : Str} {b : Bool} {Q : Value → Shared → Prop} (I : Inv X pins σ H s) (e : H a = some (.ins C dx fs)) (c : Cls X.K C) (k : MethV X.K C m g) (l : fs.lookup m = none)
    (h : ∀ q s', H q = none → Inv X pins σ (upd H q (.met g a)) s' → Q (.ref q) s') : wpAny (model X.prog X.w) A (getAttr (.ref a) m b) Q E s := by
  obtain ⟨mA, O, r, _, _, _⟩ := ins_get I.hok e
  have hn : mA m = none := RelO.none_of (by rw [← l]; exact r m)
  obtain ⟨od, J, hl⟩ := O.look
  have hg := c.get m
  refine PySem.W.get_bind I.kIn J (PySem.W.plainGet_of hg).1 (PySem.W.findObj_fn c.hd k.at_ k.get k.tk k.cp (by rw [hl, hn])) (PySem.W.plainGet_of hg).2 ?_
  refine wpAny_call (PySem.W.fn_get (s := { s with toks := s.toks + 1 }) I.kIn (beq_iff_eq.mp k.fn) (PySem.W.handed_on rfl (h s.heap.objs.size _ (I.hok.fresh (Nat.le_refl _)) ?_)))
  exact I.laid (fun b u q => Heap.get?_push_of_some _ q) (Nat.le_refl _) (Heap.get?_push_size _ rfl)

def tBound (C : Addr) (m : Str) (g : Addr) (ta : TE) : TE := fun σ H Q => ta σ H fun x H1 => ∃ a dx fs, x = .ref a ∧ H1 a = some (.ins C dx fs) ∧ fs.lookup m = none ∧ ∀ q, H1 q = none → Q (.ref q) (upd H1 q (.met g a))
theorem pe_bound {e : Expr} {ta : TE} {C g : Addr} {m : Str} {pos : Pos} (he : PE X e ta) (c : Cls X.K C) (k : MethV X.K C m g) (hb : attributeBase e m X.env (eval e X.env) = eval e X.env) : PE X (.Attribute e m pos) (tBound C m g ta) := by
  intro pins s σ H Q I h
  refine attr_of hb (thn (he pins s σ H _ I h) fun u s1 ⟨x, H1, I1, r1, a, dx, fs, ex, ea, l, q⟩ => ?_)
  subst ex
  cases r1
  exact getbound_ok I1 ea c k l fun p s' hp I' => ⟨.ref p, _, I', rfl, q p hp⟩

/-! ### what can be collected: a list, a dict's keys -/
def Coll (K : PySem.W.Frag) (H : Hp) (x : V) (xs : List V) : Prop := ∃ p, x = .ref p ∧ (SqL K H p xs ∨ ∃ kvs, Rd H p (.dK kvs) ∧ xs = kvs.map fun kv => kV kv.1)

theorem keys_vals {P : Program} {w : World} : ∀ {kvs : List (Key × V)} {vs : List (Key × Value)} {us : List Value}, KV kvs vs → us.length = vs.length → (∀ (j : Nat) (v : Value), us[j]? = some v → ∃ k x, vs[j]? = some (k, x) ∧ (mixKind P w).is k v = true) → Vals (kvs.map fun kv => kV kv.1) us
  | _, _, [], .nil, _, _ => .nil
  | _, _, _ :: _, .nil, h, _ => by simp at h
  | _, _, [], .cons _ _, h, _ => by simp at h
  | (k, v) :: kvs, (k', v') :: vs, u :: us, .cons r t, hl, hu => by
    obtain ⟨k1, x1, e1, i1⟩ := hu 0 u rfl
    have e1' : (k', v') = (k1, x1) := by simpa using e1
    cases e1'
    have hk : k = k' := r.1
    subst hk
    refine .cons ?_ (keys_vals t (by simpa using hl) fun j v e => hu (j + 1) v (by simpa using e))
    rcases keyIs_shape (show keyIs k u = true from i1) with ⟨i, t', rfl, rfl⟩ | ⟨x, t', rfl, rfl⟩
    · exact ⟨t', rfl⟩
    · exact ⟨t', rfl⟩

theorem coll_ok {A : Around} {x : V} {u : Value} {xs : List V} (I : Inv X pins σ H s) (hh : A.handled = none) (c : Coll X.K H x xs) (r : RelV x u) : xs.length ≤ sizeLine ∧
    ∀ (R : List Value → Shared → Prop) (E : Value → Shared → Prop), (∀ (h' : Heap) (tk : Nat) (vs' : List Value), Vals xs vs' → (∀ b u, s.heap.get? b = some u → h'.get? b = some u) → R vs' { s with heap := h', toks := tk }) → wpAny (model X.prog X.w) A (collect u) R E s := by
  obtain ⟨p, rfl, c⟩ := c
  cases r
  rcases c with c | ⟨kvs, c, rfl⟩
  · obtain ⟨its, rv, pl, hz⟩ := I.list c
    refine ⟨hz, fun R E hR => collect_list pl.isList ?_ (by rw [← rv.length]; exact hz)⟩
    refine hR _ s.toks its rv fun b u e => ?_
    have hb : b ≠ s.heap.objs.size := Nat.ne_of_lt (Heap.lt_size e)
    rw [Heap.get?_update_ne _ _ _ _ hb]
    exact Heap.get?_push_of_some _ e
  · obtain ⟨hz, hd, vs, kv, dd⟩ := dk_rd I.hok c
    obtain ⟨ep, hat⟩ := dd.dictAt
    have hl := kv.length
    refine ⟨by rw [List.length_map]; exact hz, fun R E hR => ?_⟩
    refine PySem.W.kdu_collect (PySem.W.kdl_dict (knd := mixKind X.prog X.w) (kvs := vs) (ep := ep) hd) hh hat (by rw [← hl]; exact hz) fun h' tk acc kp ha => ?_
    refine hR h' tk acc.toList (keys_vals (P := X.prog) (w := X.w) kv (by rw [Array.length_toList]; exact ha.1) fun j v e => ?_) kp
    obtain ⟨k, x, e1, e2⟩ := ha.2 j v (by rw [← Array.getElem?_toList]; exact e)
    exact ⟨k, x, e1, e2⟩

/-! ### sorted(x): the items tuples that begin with ints -/
theorem vals_getD {xs : List V} {vs : List Value} (r : Vals xs vs) : ∀ (l : List Nat), (∀ i ∈ l, i < xs.length) → Vals (l.map fun i => xs.getD i .non) (l.map fun i => vs.getD i Value.none)
  | [], _ => .nil
  | i :: l, h => by
    have hi := h i List.mem_cons_self
    have hl := r.length
    obtain ⟨u, e, ru⟩ := r.get (i := i) (x := xs.getD i .non) (by simp [hi])
    refine .cons ?_ (vals_getD r l fun j hj => h j (List.mem_cons_of_mem _ hj))
    have e' : vs.getD i Value.none = u := by
      have : i < vs.length := by omega
      simp [List.getD, e]
    show RelV _ (vs.getD i Value.none)
    rw [e']
    exact ru

theorem sorted_new {D : Addr} {h1 h' : Heap} {tk : Nat} {xs : List V} {vs : List Value} {p : Array Nat} {c : Nat} (I : Inv X pins σ H s) (k1 : ∀ b u, s.heap.get? b = some u → h1.get? b = some u) (hD : h1.objs.size ≤ D) (k2 : ∀ b u, h1.get? b = some u → h'.get? b = some u)
    (rv : Vals xs vs) (P : PermN xs.length p) (hz : xs.length ≤ sizeLine) (e : h'.get? D = some (seqObj "list" (List.toArray (p.toList.map fun i => vs.getD i Value.none)) c)) :
    H D = none ∧ Inv X pins σ (upd H D (.lst (p.toList.map fun i => xs.getD i .non))) { s with heap := h', toks := tk } := by
  have I1 : Inv X pins σ H { s with heap := h1, toks := tk } := I.kept k1
  refine ⟨I1.hok.fresh hD, I1.laid (a := D) (t' := tk) k2 hD ⟨?_, _, c, vals_getD rv _ fun i hi => ?_, e⟩⟩
  · rw [List.length_map, Array.length_toList, P.size]; exact hz
  · exact List.mem_range.mp (P.perm.mem_iff.mp hi)

/-- what a sort by lists of ints makes of the pairs (item, its ints) -/
def SortedBy (zs qs : List (V × List Int)) : Prop := qs.Perm zs ∧ qs.Pairwise fun a b => HT.lexLt a.2 b.2 = true

theorem sortedBy_of {zs : List (V × List Int)} {p : Array Nat} (P : PermN zs.length p) (R : Rise (fun i j => HT.lexLt ((zs.map (·.2)).getD i []) ((zs.map (·.2)).getD j [])) p zs.length) :
    ∃ qs, SortedBy zs qs ∧ (p.toList.map fun i => (zs.map (·.1)).getD i .non) = qs.map (·.1) := by
  refine ⟨p.toList.map fun i => zs.getD i (.non, []), ⟨perm_items P, rise_items P R fun i j hi hj h => ?_⟩, ?_⟩
  · simpa [hi, hj] using h
  · rw [List.map_map]
    refine List.map_congr_left fun i hi => ?_
    have : i < zs.length := List.mem_range.mp (P.perm.mem_iff.mp hi)
    simp [this]

theorem tupKeys_of {xs : List V} {nss : List (List Int)} (I : Inv X pins σ H s) : ∀ {zs : List (V × List Int)} {vs : List Value}, (∀ z ∈ zs, ∃ a ta, z.1 = .ref a ∧ SqT X.K H a (z.2.map V.int ++ ta)) → Vals (zs.map (·.1)) vs → TupKeys s.heap vs (zs.map (·.2))
  | [], _, _, .nil => .nil
  | z :: zs, v :: vs, h, .cons r t => by
    obtain ⟨a, ta, e, hq⟩ := h z List.mem_cons_self
    have r : RelV z.1 v := r
    rw [e] at r
    cases r
    obtain ⟨its, rv, hT, _⟩ := I.tuple hq
    exact .cons ⟨a, its, ta, rfl, hT, rv⟩ (tupKeys_of (xs := xs) (nss := nss) I (fun y hy => h y (List.mem_cons_of_mem _ hy)) t)

def rSorted (K : PySem.W.Frag) : List V → Hp → VK → Prop := fun us H Q => ∃ (x : V) (zs : List (V × List Int)) (k : Nat), us = [x] ∧ Coll K H x (zs.map (·.1)) ∧ zs.length < 64 ∧ 0 < k ∧ (∀ z ∈ zs, z.2.length = k) ∧ (zs.map (·.2)).Pairwise (· ≠ ·) ∧
  (∀ z ∈ zs, ∃ a ta, z.1 = .ref a ∧ SqT K H a (z.2.map V.int ++ ta)) ∧ ∀ qs D, SortedBy zs qs → H D = none → Q (.ref D) (upd H D (.lst (qs.map (·.1))))
theorem call_sorted (hc : X.calm = true) : CallR X (.builtin "sorted") (rSorted X.K) := by
  intro pins s σ H us vs Q I r h
  obtain ⟨x, zs, k, rfl, hcoll, h64, hk, hlen, hd, ht, hq⟩ := h
  obtain ⟨u, rfl, ru⟩ := vals1 r
  have hh : X.A.handled = none := I.ok.hd hc
  obtain ⟨hz, hcol⟩ := coll_ok (A := X.A.in1) I hh hcoll ru
  have hl : (zs.map (·.1)).length = zs.length := List.length_map ..
  have hl2 : (zs.map (·.2)).length = zs.length := List.length_map ..
  refine sorted_from (xs := zs.map (·.1)) (o := fun i j => HT.lexLt ((zs.map (·.2)).getD i []) ((zs.map (·.2)).getD j [])) (by rw [hl]; exact h64) (by rw [hl, ← hl2]; exact sOrd_lex hd) hcol (fun h2 h' tk vs' rv kp => ?_) fun D h1 h' tk vs' p c rv P R k1 hD k2 e => ?_
  · have I1 : Inv X pins σ H { s with heap := h', toks := tk } := I.kept kp
    have hrl := rv.length
    refine keysAt_tuples (k := k) (tupKeys_of (xs := []) (nss := []) I1 ht rv) (by omega) hk (fun ns hns => ?_) hd
    obtain ⟨z, hz1, rfl⟩ := List.mem_map.mp hns
    exact hlen z hz1
  · rw [hl] at P R
    obtain ⟨hn, IF⟩ := sorted_new (tk := tk) I k1 hD k2 rv (by rw [hl]; exact P) hz e
    obtain ⟨qs, S, eq⟩ := sortedBy_of P R
    rw [eq] at IF
    exact ⟨.ref D, _, IF, rfl, hq qs D S hn⟩

/-! ### sorted(x, key = o.m) -/
theorem method_run {CX : CXT} {kk : Nat} {g a q : Addr} {fd : FuncData} {ps : List Str} {sp : Sp} {y : V} {u : Value} {Q : VK} {A : Around} {E : Value → Shared → Prop} {σ : St} (F : FnOk X.prog X.w X.K X.mg X.base CX0 kk g fd ps sp) (hr : Room kk A) (hA : A.frames = X.A.frames) (hb : Binds X.K fd ps [])
    (I : Inv X pins σ H s) (hq : H q = some (.met g a)) (ry : RelV y u) (h : sp [.ref a, y] H Q E0) : wpAny (model X.prog X.w) A (call (.ref q) [u]) (EP X pins σ Q) E s := by
  have ho : s.heap.get? q = some (PySem.W.methodObj (.ref g) (.ref a)) := I.hok q _ hq
  have e0 := I.env0
  have r2 : Vals [V.ref a, y] [Value.ref a, u] := .cons rfl (.cons ry .nil)
  have hl : ([Value.ref a, u] ++ ([] : List Value)).length = ps.length := by rw [← F.len _ _ _ _ h]; rfl
  have hb' := hb s [.ref a, u] I.kIn hl
  refine wpAny_call (PySem.W.method_call ho (codeAny_mono (F.run A X.stack s H ⟨[.ref a, u], []⟩ [.ref a, u] [.ref a, y] Q E0 hr ⟨by rw [hA]; exact e0.frames, e0.mod, e0.bs, e0.bsz, e0.funs, e0.frf, e0.hok, e0.bare⟩ hb' r2 h) fun r s' hq' => ?_))
  cases r with
  | error e => exact hq'.elim
  | ok fl =>
    cases fl with
    | ret v => exact I.after hq'
    | next => exact hq'.elim
    | brk => exact hq'.elim
    | cont => exact hq'.elim

/-- the keys are made, one after another -/
def KeyIs (H : Hp) (k : Value) (ns : List Int) : Prop := ∃ t, k = .ref t ∧ H t = some (.tup (ns.map V.int))
theorem keyIs_tup (I : Inv X pins σ H s) : ∀ {ks : List Value} {nss : List (List Int)}, Paired (KeyIs H) ks nss → TupKeys s.heap ks nss
  | _, _, .nil => .nil
  | _, _, .cons ⟨t, e, ht⟩ r => by
    obtain ⟨its, rv, hT, _⟩ := I.tuple (SqT.of ht)
    exact .cons ⟨t, its, [], e, hT, by rw [List.append_nil]; exact rv⟩ (keyIs_tup I r)
theorem keyIs_same {H' : Hp} (S : Same H H') : ∀ {ks : List Value} {nss : List (List Int)}, Paired (KeyIs H) ks nss → Paired (KeyIs H') ks nss
  | _, _, .nil => .nil
  | _, _, .cons ⟨t, e, ht⟩ r => .cons ⟨t, e, S _ _ ht⟩ (keyIs_same S r)

theorem noSeqCell {c : String} {xs : Array Value} {n : Nat} : ∀ v, (seqObj c xs n).data ≠ .cell v := fun v e => by cases e

/-- D.sort(key = ..) of a list that nobody else knows -/
theorem sortKey_ok {kk n k : Nat} {g a q D : Addr} {fd : FuncData} {ps : List Str} {sp : Sp} {A : Around} {E : Value → Shared → Prop} {P : PySem.Fin → Shared → Prop} {zs : List (V × List Int)} {vs : List Value}
    (F : FnOk X.prog X.w X.K X.mg X.base CX0 kk g fd ps sp) (hr : Room kk A) (hA : A.frames = X.A.frames) (hb : Binds X.K fd ps []) (I : Inv X pins σ H s) (fD : FpOk X pins H D) (hq : H q = some (.met g a))
    (ho : s.heap.get? D = some (seqObj "list" vs.toArray n)) (rv : Vals (zs.map (·.1)) vs) (h64 : zs.length < 64) (hk : 0 < k) (hlen : ∀ z ∈ zs, z.2.length = k) (hd : (zs.map (·.2)).Pairwise (· ≠ ·))
    (hsp : ∀ z ∈ zs, ∀ (H' : Hp) (Q' : VK), Same H H' → (∀ t, H' t = none → Q' (.ref t) (upd H' t (.tup (z.2.map V.int)))) → sp [.ref a, z.1] H' Q' E0)
    (h : ∀ (s' : Shared) (H' : Hp) (p : Array Nat) (c : Nat), Same H H' → Inv X pins σ H' s' → FpOk X pins H' D → PermN zs.length p → Rise (fun i j => HT.lexLt ((zs.map (·.2)).getD i []) ((zs.map (·.2)).getD j [])) p zs.length →
      s'.heap.get? D = some (seqObj "list" (List.toArray (p.toList.map fun i => vs.getD i Value.none)) c) → P (.done (.ret .none)) s') :
    wpAny (model X.prog X.w) A (ksk_tree D (.ref q) false) P E s := by
  have hvl : zs.length = vs.length := by rw [← rv.length, List.length_map]
  have line : vs.length ≤ sizeLine := by rw [sizeLine_eq]; omega
  have hD : D < s.heap.objs.size := Heap.lt_size ho
  have s1 := Heap.SameBut.update s.heap D (Obj.mapSeq fun _ => (#[] : Array Value))
  obtain ⟨e1, ho1⟩ : ∃ e1, (s.heap.update D (Obj.mapSeq fun _ => (#[] : Array Value))).get? D = some (seqObj "list" #[] e1) := ⟨_, get?_update_seq ho fun _ => #[]⟩
  unfold ksk_tree
  refine wpAny_bind (listItems_at ho rfl ?_)
  refine wpAny_bind (listUpdate_at ho rfl ?_ (by rw [List.size_toArray]; exact line) (Nat.zero_le _))
  refine wpAny_bind (seqEpoch_at ho1 rfl (wpAny_bind (wpAny_newTuple ?_ line)))
  refine wpAny_bind (wpAny_newList (wpAny_holding ?_) (Nat.zero_le _))
  dsimp only
  generalize hg1 : (s.heap.update D (Obj.mapSeq fun _ => (#[] : Array Value))).push _ = h1
  have hS : (h1.push { cls := .type "list", data := .seq ([] : List Value).toArray }).get? h1.objs.size = some (seqObj "list" #[] 0) := Heap.get?_push_size _ rfl
  have kp1 : ∀ b u, b ≠ D → s.heap.get? b = some u → h1.get? b = some u := fun b u hb e => by rw [← hg1]; exact Heap.get?_push_of_some _ ((s1.2 b hb).trans e)
  have hoD : h1.get? D = some (seqObj "list" #[] e1) := by rw [← hg1]; exact Heap.get?_push_of_some _ ho1
  generalize hkS : h1.objs.size = kS at *
  have hDS : D ≠ kS := by rw [← hkS]; exact Nat.ne_of_lt (Heap.lt_size hoD)
  -- the state with both lists pinned
  have Ia : Inv X (pins ++ [(D, seqObj "list" vs.toArray n)]) σ H s := I.pin1 fD ho noSeqCell
  have Ib : Inv X (pins ++ [(D, seqObj "list" #[] e1)]) σ H { s with heap := h1 } := Ia.repin (more := []) (t' := s.toks) (by rw [List.append_nil]; exact fD) kp1 hoD noSeqCell
  have Ic : Inv X (pins ++ [(D, seqObj "list" #[] e1)]) σ H { s with heap := h1.push { cls := .type "list", data := .seq ([] : List Value).toArray } } := Ib.kept (t' := s.toks) fun b u e => Heap.get?_push_of_some _ e
  have fS : FpOk X (pins ++ [(D, seqObj "list" #[] e1)]) H kS := Ib.fpOk (by show h1.objs.size ≤ kS; omega) (Ib.hok.fresh (by show h1.objs.size ≤ kS; omega))
  have Id : Inv X ((pins ++ [(D, seqObj "list" #[] e1)]) ++ [(kS, seqObj "list" #[] 0)]) σ H { s with heap := h1.push { cls := .type "list", data := .seq ([] : List Value).toArray } } := Ic.pin1 fS hS noSeqCell
  unfold ksk_rest
  refine wpAny_bind (wpAny_rule ?_)
  first
    | rw [List.forIn_toArray]
    | (rw [← Array.forIn_toList]; simp only [List.toList_toArray])
  refine wpAny_bind (ksk_fold (fun i s' => ∃ (H' : Hp) (ks : List Value) (c : Nat), Same H H' ∧ Inv X ((pins ++ [(D, seqObj "list" #[] e1)]) ++ [(kS, seqObj "list" (List.toArray ks) c)]) σ H' s' ∧ Paired (KeyIs H') ks ((zs.map (·.2)).take i)) vs 0 _ ⟨H, [], 0, Same.refl H, Id, by rw [List.take_zero]; exact .nil⟩ ?_ ?_)
  · rintro j x s2 hx ⟨H2, ks, c, S2, I2, K2⟩
    rw [Nat.zero_add] at K2 ⊢
    have hj : j < zs.length := by rw [hvl]; exact (List.getElem?_eq_some_iff.mp hx).1
    obtain ⟨u, eu, ru⟩ := rv.get (i := j) (x := zs[j].1) (by simp [hj])
    have : u = x := Option.some.inj (eu.symm.trans hx)
    subst this
    have hkl : ks.length ≤ zs.length := by
      have := Paired.length K2
      rw [List.length_take, List.length_map] at this
      omega
    refine wpAny_bind (wpAny_attempt (wpAny_mono (method_run (CX := CX0) (Q := fun v H3 => ∃ t, v = .ref t ∧ H2 t = none ∧ H3 = upd H2 t (.tup (zs[j].2.map V.int))) (E := fun _ _ => False) F hr hA hb I2 (S2 _ _ hq) ru (hsp zs[j] (List.getElem_mem _) H2 _ S2 fun t ht => ⟨t, rfl, ht, rfl⟩)) (fun k' s3 hk3 => ?_) fun _ _ f => f.elim))
    obtain ⟨v, H3, I3, r3, t, rfl, ht, rfl⟩ := hk3
    cases r3
    have S3 : Same H2 (upd H2 t (.tup (zs[j].2.map V.int))) := fun b o e => by rw [upd_ne (ne_of_none e ht)]; exact e
    obtain ⟨pS, nS, _, _, _⟩ := I3.pin (kS, seqObj "list" (List.toArray ks) c) (by simp)
    have s3 := Heap.SameBut.update s3.heap kS (Obj.mapSeq (·.push (.ref t)))
    dsimp only
    refine wpAny_bind (listUpdate_at pS rfl ?_ (by rw [List.size_toArray, sizeLine_eq]; omega) (Nat.le_trans (Nat.le_of_eq (Array.size_push ..)) (by rw [List.size_toArray, sizeLine_eq]; omega)))
    have CC : ∃ c' : Nat, c' = if ((List.toArray ks).push (.ref t)).size == (List.toArray ks).size then c else c + 1 := ⟨_, rfl⟩
    obtain ⟨c', ec'⟩ := CC
    refine wpAny_pure ⟨rfl, _, ks ++ [.ref t], c', S2.trans S3, I3.repin (more := []) (t' := _) (by rw [List.append_nil]; exact fS.heap nS) (fun b u hb e => (s3.2 b hb).trans e) (o' := seqObj "list" (List.toArray (ks ++ [.ref t])) c') ?_ noSeqCell, ?_⟩
    · rw [show List.toArray (ks ++ [.ref t]) = (List.toArray ks).push (.ref t) by simp, ec']
      exact get?_update_seq pS (·.push (.ref t))
    · have e2 : (zs.map (·.2)).take (j + 1) = (zs.map (·.2)).take j ++ [zs[j].2] := by
        rw [List.take_add_one]
        simp [hj]
      rw [e2]
      exact (keyIs_same S3 K2).snoc ⟨t, rfl, upd_same⟩
  · rintro s2 ⟨H2, ks, c, S2, I2, K2⟩
    rw [Nat.zero_add, ← hvl, show (zs.map (·.2)).take zs.length = zs.map (·.2) by rw [List.take_of_length_le]; simp] at K2
    have hkl : ks.length = zs.length := by rw [Paired.length K2, List.length_map]
    obtain ⟨pS, nS, _, _, _⟩ := I2.pin (kS, seqObj "list" (List.toArray ks) c) (by simp)
    obtain ⟨pD, nD, _, _, _⟩ := I2.pin (D, seqObj "list" #[] e1) (by simp)
    try dsimp only
    refine wpAny_bind (listItems_at pS rfl ?_)
    unfold ksk_end
    dsimp only
    simp only [Bool.false_eq_true, if_false]
    refine sort_heart (o := fun i j => HT.lexLt ((zs.map (·.2)).getD i []) ((zs.map (·.2)).getD j [])) (by omega) (by omega) (by rw [← hvl, ← List.length_map (f := (·.2)) (as := zs)]; exact sOrd_lex hd) (fun h2 => ?_) fun p st hp hr' ha hf => ?_
    · exact keysAt_tuples (k := k) (keyIs_tup I2 K2) (by omega) hk (fun ns hns => by
        obtain ⟨z, hz1, rfl⟩ := List.mem_map.mp hns
        exact hlen z hz1) hd
    · unfold ksk_tail
      dsimp only
      rw [out_items (by omega) ha]
      have hsz : (List.toArray (p.toList.map fun i => vs.getD i Value.none)).size = vs.length := by rw [List.size_toArray, List.length_map, Array.length_toList, hp.size]
      have sS := Heap.SameBut.update s2.heap kS (Obj.mapSeq fun _ => (#[] : Array Value))
      refine wpAny_bind (listUpdate_at pS rfl ?_ (by rw [List.size_toArray, sizeLine_eq]; omega) (Nat.zero_le _))
      refine wpAny_bind (wpAny_letGo ?_)
      have I3 := I2.repin (more := []) (t' := s2.toks) (by rw [List.append_nil]; exact fS.heap nS) (fun b u hb e => (sS.2 b hb).trans e) (get?_update_seq pS fun _ => (#[] : Array Value)) noSeqCell
      obtain ⟨pD3, nD3, _, _, _⟩ := I3.pin (D, seqObj "list" #[] e1) (by simp)
      refine wpAny_bind (seqEpoch_at pD3 rfl ?_)
      have sD := Heap.SameBut.update (s2.heap.update kS (Obj.mapSeq fun _ => (#[] : Array Value))) D (Obj.mapSeq fun _ => List.toArray (p.toList.map fun i => vs.getD i Value.none))
      refine wpAny_bind (listUpdate_at pD3 rfl ?_ (Nat.zero_le _) (Nat.le_trans (Nat.le_of_eq hsz) (Nat.le_succ_of_le line)))
      rw [hf]
      simp only [bne_self_eq_false, Bool.false_eq_true, if_false]
      have I4 : Inv X pins σ H2 { s2 with heap := s2.heap.update kS (Obj.mapSeq fun _ => (#[] : Array Value)) } := I3.unpinned.unpinned
      have fD' : FpOk X pins H2 D := fD.heap nD3
      obtain ⟨g0, g1, _, g3, g4, g5⟩ := fD'
      have I5 := I4.turned (t' := s2.toks) (it := D) (fun b u hb e => (sD.2 b hb).trans e) g0 g1 g3 g4 g5
      exact wpAny_pure (h _ H2 p _ S2 I5 ⟨g0, g1, by assumption, g3, g4, g5⟩ (by rw [hvl]; exact hp) (by rw [hvl]; exact hr') (get?_update_seq pD3 fun _ => List.toArray (p.toList.map fun i => vs.getD i Value.none)))


def rSortK (K : PySem.W.Frag) (g : Addr) (sp : Sp) (x f : V) (H2 : Hp) (Q : VK) : Prop := ∃ (q a : Addr) (zs : List (V × List Int)) (k : Nat), f = .ref q ∧ H2 q = some (.met g a) ∧ Coll K H2 x (zs.map (·.1)) ∧ zs.length < 64 ∧ 0 < k ∧ (∀ z ∈ zs, z.2.length = k) ∧ (zs.map (·.2)).Pairwise (· ≠ ·) ∧
  (∀ z ∈ zs, ∀ (H' : Hp) (Q' : VK), Same H2 H' → (∀ t, H' t = none → Q' (.ref t) (upd H' t (.tup (z.2.map V.int)))) → sp [.ref a, z.1] H' Q' E0) ∧
  ∀ qs D H', SortedBy zs qs → H2 D = none → Same H2 H' → H' D = some (.lst (qs.map (·.1))) → Q (.ref D) H'
def tSortK (K : PySem.W.Frag) (g : Addr) (sp : Sp) (ti tk : TE) : TE := fun σ H Q => ti σ H fun x H1 => tk σ H1 fun f H2 => rSortK K g sp x f H2 Q
def one1 (R : V → Hp → Prop) : List V → Hp → Prop := fun vs H => match vs with
  | [x] => R x H
  | _ => False
theorem one1_of {R : V → Hp → Prop} : ∀ {vs : List V} {H : Hp}, one1 R vs H → ∃ x, vs = [x] ∧ R x H
  | [], _, h => h.elim
  | [x], _, h => ⟨x, rfl, h⟩
  | _ :: _ :: _, _, h => h.elim

theorem sortK_call {kk : Nat} {g : Addr} {fd : FuncData} {ps : List Str} {sp : Sp} {x f : V} {u v : Value} {Q : VK} (hc : X.calm = true) (F : FnOk X.prog X.w X.K X.mg X.base CX0 kk g fd ps sp) (hr : Room (kk + 2) X.A) (hb : Binds X.K fd ps []) (I : Inv X pins σ H s) (rx : RelV x u) (rf : RelV f v) (h : rSortK X.K g sp x f H Q) :
    wpAny (model X.prog X.w) X.A (call (.builtin "sorted") [u] [(Str.ofString "key", v)]) (EP X pins σ Q) X.xe s := by
  obtain ⟨q, a, zs, k, rfl, hq, hcoll, h64, hk, hlen, hd, hsp, hQ⟩ := h
  cases rf
  obtain ⟨hz, hcol⟩ := coll_ok (A := X.A.in1) I (I.ok.hd hc) hcoll rx
  rw [List.length_map] at hz
  refine call_function_entry_kw kind_sorted plain_sorted entry_sorted (ksk_s1 _ _) ?_
  unfold Builtin.«sorted»
  refine wpAny_bind (m := checkCount "sorted" 1 1 _) (wpAny_pure (wpAny_bind (hcol _ _ fun h1 tk vs rv k1 => ?_)))
  have hl : zs.length = vs.length := by rw [← rv.length, List.length_map]
  refine wpAny_bind (wpAny_newList ?_ (by rw [← hl]; exact hz))
  have hoL : (h1.push { cls := .type "list", data := .seq vs.toArray }).get? h1.objs.size = some (seqObj "list" vs.toArray 0) := Heap.get?_push_size _ rfl
  have I1 : Inv X pins σ H { s with heap := h1, toks := tk } := I.kept k1
  have I2 : Inv X pins σ H { s with heap := h1.push { cls := .type "list", data := .seq vs.toArray }, toks := tk } := I1.kept (t' := tk) fun b u e => Heap.get?_push_of_some _ e
  have fD : FpOk X pins H h1.objs.size := I1.fpOk (Nat.le_refl _) (I1.hok.fresh (Nat.le_refl _))
  refine wpAny_bind (wpAny_holding (wpAny_call_entry_kw slot_list_sort ⟨_, hoL, rfl⟩ entry_list_sort ?_ (ksk_l1 _ _)))
  show wpAny (model X.prog X.w) X.A.in1.in1 (Builtin.«list.sort» ⟨[.ref h1.objs.size], [(Str.ofString "key", .ref q)]⟩) _ _ _
  rw [ksk_t1]
  refine sortKey_ok F hr.in1.in1 rfl hb I2 fD hq hoL rv h64 hk hlen hd hsp fun s' H' p c S I' f' P R e => ?_
  obtain ⟨qs, SB, eq⟩ := sortedBy_of P R
  refine ⟨_, rfl, wpAny_pure ⟨_, rfl, .ref h1.objs.size, upd H' h1.objs.size (.lst (qs.map (·.1))), ?_, rfl, hQ qs _ _ SB fD.1 (fun b o e' => ?_) upd_same⟩⟩
  · refine I'.track f' ⟨?_, _, c, ?_, e⟩
    · rw [List.length_map, SB.1.length_eq]; exact hz
    · rw [← eq]
      exact vals_getD rv _ fun i hi => by rw [List.length_map]; exact List.mem_range.mp (P.perm.mem_iff.mp hi)
  · rw [upd_ne (ne_of_none e' fD.1)]; exact S b o e'

theorem pe_sortK {kk : Nat} {g : Addr} {fd : FuncData} {ps : List Str} {sp : Sp} {e f : Expr} {ti tk : TE} {p pos kpos : Pos} (hc : X.calm = true) (F : FnOk X.prog X.w X.K X.mg X.base CX0 kk g fd ps sp) (hr : Room (kk + 2) X.A) (hb : Binds X.K fd ps []) (hg : Gl X "sorted") (hm : X.mg "sorted" = none)
    (he : PE X e ti) (hf : PE X f tk) (hs : starEach [e] X.env = (false, eval e X.env) :: starEach [] X.env := by rfl) (hbt : backTo pos (starEach [e] X.env) = (false, eval e X.env) :: backTo pos (starEach [] X.env) := by rfl)
    (hpl : (backTo pos (starEach [e] X.env)).any (·.1) = false := by rfl) : PE X (.Call (.Name "sorted" p) [e] [⟨some "key", f, kpos⟩] pos) (tSortK X.K g sp ti tk) := by
  intro pins s σ H Q I h
  refine wpAny_Call_Name_kw (ld_blt I hg hm boot_sorted ?_ (by decide) (by decide))
  refine callWith_kw (thn ((pa_cons he pa_nil hs) pos pins s σ H (one1 fun x H1 => tk σ H1 fun f H2 => rSortK X.K g sp x f H2 Q) I h) fun us s1 ⟨vs, H1, I1, r1, q1⟩ => ?_) hbt hpl rfl rfl
  obtain ⟨x, rfl, q1⟩ := one1_of q1
  obtain ⟨u, rfl, ru⟩ := vals1 r1
  refine thn ((pk_cons hf pk_nil) pos pins s1 σ H1 (one1 fun f H2 => rSortK X.K g sp x f H2 Q) I1 q1) fun ws s2 ⟨zs, H2, I2, r2, q2⟩ => ?_
  obtain ⟨f', rfl, q2⟩ := one1_of q2
  obtain ⟨v, rfl, rv⟩ := vals1 r2
  exact sortK_call hc F hr hb I2 ru rv q2
end
end L2

/-! MY OWN RULES. 5: numbers, texts, isinstance, is, ==, all, join, slices, enumerate, list(d) -/
namespace L2
open PySem PySem.Spec PyProof.Rows

section
variable {X : Cx} {pins : List (Addr × Obj)} {σ : St} {H : Hp} {s : Shared}

/-! ### // by a number of any everyday size -/
def CDivB (i j : Int) : Prop := 0 < j ∧ j < 2 ^ 200
theorem cdivB_log {j : Int} (h : 0 < j ∧ j < 2 ^ 200) : j.natAbs.log2 < 9000 := by
  have h0 : j.natAbs ≠ 0 := by omega
  have e : j.natAbs < 2 ^ 200 := by
    have := h.2
    have h1 := h.1
    omega
  have := (Nat.log2_lt h0).mpr e
  omega
theorem op_fdivB : OpR X (binaryOp .FloorDiv) (rI CDivB fun i j => .int (i / j)) := opI fun i j _ _ _ _ _ hc q => by
  refine floordiv_int (by have := hc.1; omega) ?_ (.inl (PyProof.noPylong_of_log2 (cdivB_log hc)))
  rw [Int.fdiv_eq_ediv_of_nonneg _ (Int.le_of_lt hc.1)]
  exact q

/-! ### x.bit_length() -/
theorem mt_bits : MtR X "int.bit_length" (fun x vs H Q => ∃ i, x = .int i ∧ vs = [] ∧ Q (.int (Builtin.Int.intBits i)) H) := by
  intro pins s σ H x xs v us Q I rx rv h
  obtain ⟨i, rfl, rfl, q⟩ := h
  obtain ⟨t, rfl⟩ := rx
  cases rv
  exact call_int_bit_length ⟨.int (Builtin.Int.intBits i), H, I.tok _, ⟨_, rfl⟩, q⟩

/-! ### isinstance(x, T), T a built-in type -/
def rIsi (K : PySem.W.Frag) : List V → Hp → VK → Prop := fun vs H Q => ∃ x T t b, vs = [x, .ty T] ∧ TyOf K H x t ∧ PySem.W.kitOne K t (.type T) = some b ∧ Q (.bl b) H
theorem call_isi : CallR X (.builtin "isinstance") (rIsi X.K) := by
  intro pins s σ H xs us Q I r h
  obtain ⟨x, T, t, b, rfl, ty, e, q⟩ := h
  obtain ⟨u, v, rfl, ru, rv⟩ := vals2 r
  cases (show v = Value.type T from rv)
  exact isinst_ok I ru ty e fun tk => ⟨.bl b, H, I.tok tk, rfl, q⟩

/-! ### x is False -/

/-! ### texts -/
theorem op_le_str : OpR X (compareOp .LtE) (fun x y H Q => ∃ i j, x = .str i ∧ y = .str j ∧ Q (.bl (!decide (j.cps.toList < i.cps.toList))) H) := by
  intro pins s σ H x y v u Q I rx ry h
  obtain ⟨i, j, rfl, rfl, q⟩ := h
  obtain ⟨t, rfl⟩ := rx
  obtain ⟨t', rfl⟩ := ry
  exact PySem.P.le_str (fin_bl I q rfl)

def rSlS : V → Option Int → Option Int → Hp → VK → Prop := fun x lo hi H Q => ∃ z, x = .str z ∧ z.length ≤ sizeLine ∧ Q (.str (Txt.slice z lo hi)) H
theorem part_of {v : Value} {o : Option Int} (p : IsPart v o) : ∃ q : Option (Int × Tok), v = partValue q ∧ q.map (·.1) = o := by
  cases p with
  | none => exact ⟨none, rfl, rfl⟩
  | int i t => exact ⟨some (i, t), rfl, rfl⟩
theorem sl_str : SlR X rSlS := by
  intro pins s σ H x v vl vu lo hi sl Q I rx hs pl pu h
  obtain ⟨z, rfl, hz, q⟩ := h
  obtain ⟨t, rfl⟩ := rx
  obtain ⟨ql, rfl, rfl⟩ := part_of pl
  obtain ⟨qu, rfl, rfl⟩ := part_of pu
  refine ⟨"str", _, PySem.F.slot_str_getitem.lookup, typeIs_str _ _ _, wpAny_getItem_str_slice (l := ql) (u := qu) (st := none) hs rfl ?_⟩
  exact post_val_or_str ⟨Nat.le_trans (Txt.slice_le z _ _) hz, fun t' k => ⟨.str _, H, I.tok k, ⟨t', rfl⟩, q⟩⟩

theorem strsAre_of : ∀ {zs : List Str} {us : List Value}, Vals (zs.map V.str) us → StrsAre us zs
  | [], _, .nil => .nil
  | z :: zs, _, .cons r t => by
    obtain ⟨u, rfl⟩ := r
    exact .cons _ _ (strsAre_of t)
def rJoin (K : PySem.W.Frag) : V → List V → Hp → VK → Prop := fun x vs H Q => ∃ z p zs, x = .str z ∧ vs = [.ref p] ∧ SqL K H p (zs.map V.str) ∧ (zs.map (·.length)).sum + zs.length * z.length ≤ 16777216 ∧ Q (.str (Txt.join z zs)) H
theorem mt_join : MtR X "str.join" (rJoin X.K) := by
  intro pins s σ H x xs v us Q I rx rv h
  obtain ⟨z, p, zs, rfl, rfl, hq, hl, q⟩ := h
  obtain ⟨t, rfl⟩ := rx
  obtain ⟨u, rfl, ru⟩ := vals1 rv
  cases ru
  obtain ⟨its, rl, pl, _⟩ := I.list hq
  exact join_list pl.isList (by simpa using strsAre_of rl) hl fun t' k => ⟨.str _, H, I.tok k, ⟨t', rfl⟩, q⟩

/-! ### all([..]) of bools -/
theorem call_all (hc : X.calm = true) : CallR X (.builtin "all") (fun vs H Q => ∃ (p : Addr) (bs : List Bool), vs = [.ref p] ∧ SqL X.K H p (bs.map V.bl) ∧ Q (.bl (bs.all id)) H) := by
  intro pins s σ H xs us Q I r h
  obtain ⟨p, bs, rfl, hq, q⟩ := h
  obtain ⟨u, rfl, ru⟩ := vals1 r
  cases ru
  obtain ⟨its, rl, pl, hz⟩ := I.list hq
  have hh : X.A.in1.handled = none := I.ok.hd hc
  have hl := rl.length
  rw [List.length_map] at hl
  refine call_all_walk (wpAny_pyIter_list pl.isList ?_)
  have hne : p ≠ s.heap.objs.size := by
    obtain ⟨o, ho, _⟩ := pl.isList
    exact Nat.ne_of_lt (Heap.lt_size ho)
  refine ⟨s.heap.objs.size, _, _, _, _, _, fun i => bs.getD i true, rfl, Walks.list hh _ p hne its.toArray, ⟨⟨_, Heap.get?_push_size _ rfl, rfl, rfl⟩, pl.isList.at fun o e => Heap.get?_push_of_some _ e⟩, ?_, fun h' tk kp => ?_⟩
  · intro i v s' Q' E' hv hq'
    have hv' : its[i]? = some v := by simpa using hv
    have hi : i < bs.length := by rw [hl]; exact (List.getElem?_eq_some_iff.mp hv').1
    obtain ⟨u, eu, ru⟩ := rl.get (i := i) (x := .bl bs[i]) (by simp [hi])
    have : u = v := Option.some.inj (eu.symm.trans hv')
    subst this
    cases (show u = Value.bool bs[i] from ru)
    refine wpAny_truthy_bool ?_
    rw [show bs[i] = bs.getD i true by simp [hi]]
    exact hq'
  · have e : ((List.range its.toArray.size).all fun i => bs.getD i true) = bs.all id := by
      rw [List.size_toArray, ← hl]
      rw [Bool.eq_iff_iff, List.all_eq_true, List.all_eq_true]
      constructor
      · intro h x hx
        obtain ⟨i, hi, rfl⟩ := List.getElem_of_mem hx
        have := h i (List.mem_range.mpr hi)
        simpa [hi] using this
      · intro h i hi
        have hi := List.mem_range.mp hi
        have := h bs[i] (List.getElem_mem _)
        simpa [hi] using this
    rw [e]
    refine ⟨.bl _, H, I.turns (fp := [s.heap.objs.size]) (t' := tk) (fun b hb => ?_) fun b o hb e' => kp b o hb (Heap.get?_push_of_some _ e'), rfl, q⟩
    rw [List.mem_singleton.mp hb]
    exact I.fpOk (Nat.le_refl _) (I.hok.fresh (Nat.le_refl _))

/-! ### two lists of flat values: ==, != -/
def eqVs : List V → List V → Bool
  | [], [] => true
  | x :: xs, y :: ys => eqV x y && eqVs xs ys
  | _, _ => false
theorem eqVs_len : ∀ {xs ys : List V}, eqVs xs ys = true → xs.length = ys.length
  | [], [], _ => rfl
  | [], _ :: _, h => by cases h
  | _ :: _, [], h => by cases h
  | x :: xs, y :: ys, h => by
    unfold eqVs at h
    rw [Bool.and_eq_true] at h
    rw [List.length_cons, List.length_cons, eqVs_len h.2]
theorem eqVs_all : ∀ {xs ys : List V}, xs.length = ys.length → ((List.range xs.length).all fun i => eqV (xs.getD i .non) (ys.getD i .non)) = eqVs xs ys
  | [], [], _ => rfl
  | [], _ :: _, h => by simp at h
  | _ :: _, [], h => by simp at h
  | x :: xs, y :: ys, h => by
    rw [List.length_cons, List.range_succ_eq_map, List.all_cons, List.all_map]
    show (eqV x y && (List.range xs.length).all fun i => eqV (xs.getD i .non) (ys.getD i .non)) = (eqV x y && eqVs xs ys)
    rw [eqVs_all (by simpa using h)]
theorem eqVs_ne {xs ys : List V} (h : xs.length ≠ ys.length) : eqVs xs ys = false := by
  cases e : eqVs xs ys with
  | false => rfl
  | true => exact absurd (eqVs_len e) h
theorem eqVs_strs : ∀ {a b : List Str}, eqVs (a.map V.str) (b.map V.str) = decide (a = b)
  | [], [] => by simp [eqVs]
  | [], _ :: _ => by simp [eqVs]
  | _ :: _, [] => by simp [eqVs]
  | x :: a, y :: b => by
    rw [List.map_cons, List.map_cons]
    show (eqV (.str x) (.str y) && eqVs (a.map V.str) (b.map V.str)) = _
    rw [eqVs_strs]
    by_cases e : x = y
    · subst e
      by_cases e2 : a = b
      · subst e2; simp [eqV]
      · simp [e2]
    · have : eqV (.str x) (.str y) = false := by simp [eqV, e]
      simp [this, e]

def rEqL (K : PySem.W.Frag) (neg : Bool) : R2 := fun x y H Q => ∃ p q xs ys, x = .ref p ∧ y = .ref q ∧ SqL K H p xs ∧ SqL K H q ys ∧ xs.all flatV = true ∧ ys.all flatV = true ∧ Q (.bl (if neg = true then !eqVs xs ys else eqVs xs ys)) H
theorem eqL_at {A : Around} {xs ys : List V} {us ws : List Value} (r1 : Vals xs us) (r2 : Vals ys ws) (f1 : xs.all flatV = true) (f2 : ys.all flatV = true) : ∀ j (h1 : j < us.toArray.size) (h2 : j < ws.toArray.size), SeqAt.EqAt A s us.toArray[j] ws.toArray[j] (eqV (xs.getD j .non) (ys.getD j .non)) := fun j h1 h2 => by
  have l1 := r1.length
  have l2 := r2.length
  have j1 : j < us.length := by simpa using h1
  have j2 : j < ws.length := by simpa using h2
  have k1 : j < xs.length := by omega
  have k2 : j < ys.length := by omega
  obtain ⟨u, e1, q1⟩ := r1.get (i := j) (x := xs[j]) (by simp [k1])
  obtain ⟨v, e2, q2⟩ := r2.get (i := j) (x := ys[j]) (by simp [k2])
  have d1 : us.toArray[j] = u := by
    have : us[j]? = some us[j] := by simp [j1]
    rw [this] at e1; simpa using Option.some.inj e1
  have d2 : ws.toArray[j] = v := by
    have : ws[j]? = some ws[j] := by simp [j2]
    rw [this] at e2; simpa using Option.some.inj e2
  rw [d1, d2, show xs.getD j .non = xs[j] by simp [k1], show ys.getD j .non = ys[j] by simp [k2]]
  exact eqAt_V q1 q2 (List.all_eq_true.mp f1 _ (List.getElem_mem _)) (List.all_eq_true.mp f2 _ (List.getElem_mem _))
theorem op_eqL (hu : X.A.units < cLine) : OpR X (compareOp .Eq) (rEqL X.K false) := by
  intro pins s σ H x y v u Q I rx ry h
  obtain ⟨p, q, xs, ys, rfl, rfl, h1, h2, f1, f2, hq⟩ := h
  cases rx
  cases ry
  obtain ⟨us, r1, p1, _⟩ := I.list h1
  obtain ⟨ws, r2, p2, _⟩ := I.list h2
  have l1 := r1.length
  have l2 := r2.length
  by_cases e : xs.length = ys.length
  · refine SeqAt.eq_listAt p1.isList p2.isList (by simp; omega) hu (eqL_at r1 r2 f1 f2) ?_
    rw [List.size_toArray, ← l1, eqVs_all e]
    exact fin_bl I hq rfl
  · refine SeqAt.eq_list_lengthsAt p1.isList p2.isList (by simp; omega) hu ?_
    refine fin_bl I hq ?_
    rw [eqVs_ne e]; rfl

/-! ### for sign in text -/
def Its (x : Str) : It := ⟨fun i _ => i < x.cps.size, fun i H v H' => H' = H ∧ ∃ c, x.cps[i]? = some c ∧ v = .str ⟨#[c]⟩, fun i _ => x.cps.size ≤ i⟩
theorem turn_str {P : Program} {w : World} {K : PySem.W.Frag} {tg : Expr} (it : Addr) (x : Str) (t : Tok) (ty : String) (hty : ty = "str_ascii_iterator" ∨ ty = "str_iterator") : Turn P w K tg (Its x) [it] it (fun i h => h.IsStrIter it ty x t i) where
  mem := by simp
  obj := fun i h st b hb => by
    have e : b = it := by simpa using hb
    subst e
    obtain ⟨o, e, c, d⟩ := st
    exact ⟨o, e, fun v z => by rw [d] at z; cases z⟩
  keep := fun i h h' st k => let ⟨o, ho, r⟩ := st; ⟨o, k it (by simp) o ho, r⟩
  item := by
    intro X hP hw hK hc i pins s σ H E I hf st hg
    subst hP hw hK
    obtain ⟨f0, f1, f2, f3, f4, f5⟩ := hf it (by simp)
    have hh : X.A.handled = none := I.ok.hd hc
    have W : Walks X.prog X.w X.A it [it] [it] x.cps.size (SignAt x) (fun i h => h.IsStrIter it ty x t i) := by
      rcases hty with rfl | rfl
      · exact Walks.strAscii hh it x t
      · exact Walks.strWide hh it x t
    refine W.item i s _ _ hg st fun v h' tk hv st' kk => ?_
    obtain ⟨c, u, e, rfl⟩ := hv
    have I1 : Inv X pins σ H { s with heap := h', toks := tk } := I.turned (fun b o hb e => kk b o (by simpa using hb) e) f0 f1 f3 f4 f5
    obtain ⟨o, eo, co, dd⟩ := id st'
    refine ⟨_, rfl, go_of (s := { s with heap := h', toks := tk }) eo co dd (by rcases hty with rfl | rfl <;> decide) ⟨.str ⟨#[c]⟩, H, I1, ⟨u, rfl⟩, ⟨rfl, c, e, rfl⟩, st', fun b hb => (hf b hb).1⟩⟩
  done := by
    intro X hP hw hK hc i pins s σ H E I hf st hg
    subst hP hw hK
    obtain ⟨f0, f1, f2, f3, f4, f5⟩ := hf it (by simp)
    have hh : X.A.handled = none := I.ok.hd hc
    have hn : x.cps[i]? = none := by
      have : x.cps.size ≤ i := hg
      simp [this]
    rcases hty with rfl | rfl
    · exact wpAny_pyNext_ascii_end hh st hn fun h' eb => ⟨rfl, I.turned (t' := s.toks) (fun b o hb e => eb b o hb e) f0 f1 f3 f4 f5⟩
    · exact wpAny_pyNext_wide_end hh st hn fun h' eb => ⟨rfl, I.turned (t' := s.toks) (fun b o hb e => eb b o hb e) f0 f1 f3 f4 f5⟩
  self := fun _ _ _ _ _ st h => by
    rcases hty with rfl | rfl
    · exact wpAny_pyIter_striter_ascii st h
    · exact wpAny_pyIter_striter_wide st h
def iStr (te : TE) : TI := fun σ H R => te σ H fun x H1 => ∃ z, x = .str z ∧ R (Its z) H1
theorem pi_str {tg l : Expr} {te : TE} (hl : PE X l te) : PI X tg l (iStr te) := by
  intro pins s σ H R I h
  refine thn (hl pins s σ H _ I h) fun v s1 ⟨x, H1, I1, r1, z, e, q⟩ => ?_
  subst e
  obtain ⟨t, rfl⟩ := r1
  refine wpAny_pyIter_strU ?_
  refine ⟨s1.heap.objs.size, [s1.heap.objs.size], _, Its z, H1, rfl, I1.kept (t' := s1.toks) fun b o e => Heap.get?_push_of_some _ e, turn_str _ z t (strIterType z) ?_, ⟨_, Heap.get?_push_size _ rfl, rfl, rfl⟩, fun b hb => ?_, q⟩
  · unfold strIterType
    cases z.cps.all (· < 128)
    · exact .inr rfl
    · exact .inl rfl
  · rw [List.mem_singleton.mp hb]
    exact I1.fpOk (Nat.le_refl _) (I1.hok.fresh (Nat.le_refl _))

/-! ### for a, b in enumerate(list) -/
def Ite (K : PySem.W.Frag) (a : Addr) : It :=
  ⟨fun i H => ∃ xs x, SqL K H a xs ∧ xs[i]? = some x, fun i H v H' => ∃ T x, H T = none ∧ v = .ref T ∧ H' = upd H T (.tup [.int i, x]) ∧ ∀ xs, SqL K H a xs → xs[i]? = some x, fun i H => ∃ xs, SqL K H a xs ∧ xs.length ≤ i⟩
theorem turn_enum {P : Program} {w : World} {K : PySem.W.Frag} {elts : List Expr} {k1} {tp : Pos} (a e it : Addr) (hei : e ≠ it) : Turn P w K (.Tuple elts k1 tp) (Ite K a) [e, it] e (fun i h => (∃ old, IsEnum h e it i old) ∧ h.IsListIter it a i) where
  mem := by simp
  obj := fun i h st b hb => by
    obtain ⟨⟨old, he⟩, o, ho, _, hd⟩ := st
    rcases List.mem_cons.mp hb with z | z
    · rw [z]; exact ⟨_, he, fun v z => by cases z⟩
    · rw [List.mem_singleton.mp z]; exact ⟨o, ho, fun v z => by rw [hd] at z; cases z⟩
  keep := fun i h h' st k => by
    obtain ⟨⟨old, he⟩, hit⟩ := st
    exact ⟨⟨old, k e (by simp) _ he⟩, hit.at fun o q => k it (by simp) o q⟩
  item := by
    intro X hP hw hK hc i pins s σ H E I hf st hg
    subst hP hw hK
    obtain ⟨xs, x, hq, hx⟩ := hg
    obtain ⟨its, rv, p, hz⟩ := I.list hq
    obtain ⟨u, hu, ru⟩ := rv.get hx
    obtain ⟨⟨old, he⟩, hit⟩ := st
    refine wpAny_pyNext_enum_item he hit p.isList (x := u) (by simpa using hu) hei fun h' ho hit' hT hsz kp => ⟨_, rfl, ?_⟩
    refine wpAny_letOwnedTupleGo_enum ho fun h2 he2 sb => ?_
    have hT2 : h2.get? s.heap.objs.size = some { cls := .type "tuple", data := .seq #[.int i s.toks, u] } := (sb.2 _ (Nat.ne_of_gt (Heap.lt_size he))).trans hT
    have hfree : H s.heap.objs.size = none := I.hok.fresh (Nat.le_refl _)
    have hilt : it < s.heap.objs.size := by obtain ⟨_, z, _⟩ := hit; exact Heap.lt_size z
    have I1 : Inv X pins σ H { s with heap := h2, toks := s.toks + 1 } := I.turns (fp := [e, it]) hf fun b o hb q => (sb.2 b fun z => hb (by simp [z])).trans (kp b o (fun z => hb (by simp [z])) (fun z => hb (by simp [z])) q)
    have I2 : Inv X pins σ (upd H s.heap.objs.size (.tup [.int i, x])) { s with heap := h2, toks := s.toks + 1 } := I1.track (I.fpOk (Nat.le_refl _) hfree) ⟨by show 2 ≤ sizeLine; decide, [.int i s.toks, u], .cons ⟨_, rfl⟩ (.cons ru .nil), _, hT2, rfl, _, rfl⟩
    refine ⟨.ref s.heap.objs.size, _, I2, rfl, ⟨s.heap.objs.size, x, hfree, rfl, rfl, fun ys hy => by rw [I.list_inj hy hq]; exact hx⟩, ⟨⟨u, by simpa using he2⟩, hit'.at fun o q => (sb.2 it hei.symm).trans q⟩, fun b hb => ?_⟩
    rw [upd_ne]
    · exact (hf b hb).1
    · rcases List.mem_cons.mp hb with z | z
      · rw [z]; exact Nat.ne_of_lt (Heap.lt_size he)
      · rw [List.mem_singleton.mp z]; exact Nat.ne_of_lt hilt
  done := by
    intro X hP hw hK hc i pins s σ H E I hf st hg
    subst hP hw hK
    obtain ⟨xs, hq, hx⟩ := hg
    obtain ⟨its, rv, p, hz⟩ := I.list hq
    obtain ⟨⟨old, he⟩, hit⟩ := st
    have hl := rv.length
    exact wpAny_pyNext_enum_end (I.ok.hd hc) he hit p.isList (by simp; omega) fun h' eb => ⟨rfl, I.turns (fp := [e, it]) (t' := s.toks) hf fun b o hb q => eb b o (fun z => hb (by simp [z])) q⟩
  self := fun _ _ _ _ _ st h => by
    obtain ⟨⟨old, he⟩, _⟩ := st
    exact wpAny_pyIter_enum he h
def iEnum (K : PySem.W.Frag) (ta : TA) : TI := fun σ H R => ta σ H fun vs H1 => ∃ a, vs = [.ref a] ∧ (∃ xs, SqL K H1 a xs) ∧ R (Ite K a) H1
theorem pi_enum {a : Expr} {ta : TA} {p pos tp : Pos} {elts : List Expr} {k1} (hg : Gl X "enumerate") (hm : X.mg "enumerate" = none) (ha : PA X [a] ta) (hs : starEach [a] X.env = [(false, eval a X.env)] := by rfl) : PI X (.Tuple elts k1 tp) (.Call (.Name "enumerate" p) [a] [] pos) (iEnum X.K ta) := by
  intro pins s σ H R I h
  refine Call_ (ld_blt I hg hm boot_enumerate (PyProof.Rows.callWith_type1 (thn (ha pos pins s σ H _ I h) fun us s1 ⟨vs, H1, I1, r1, q1⟩ => ?_) hs rfl))
  obtain ⟨b, e, ⟨xs, hq⟩, q⟩ := q1
  subst e
  obtain ⟨u, rfl, ru⟩ := vals1 r1
  cases ru
  obtain ⟨its, rv, pl, hz⟩ := I1.list hq
  refine call_enumerate_list pl.isList fun h' he hit hsz kp => ?_
  refine wpAny_pyIter_enum he ?_
  have hfree : ∀ c, s1.heap.objs.size ≤ c → H1 c = none := fun c hc => I1.hok.fresh hc
  refine ⟨s1.heap.objs.size + 1, [s1.heap.objs.size + 1, s1.heap.objs.size], _, _, H1, rfl, I1.kept (t' := s1.toks) kp, turn_enum b _ _ (Nat.ne_of_gt (Nat.lt_succ_self _)), ⟨⟨_, by simpa using he⟩, hit⟩, fun c hc => ?_, q⟩
  rcases List.mem_cons.mp hc with z | z
  · rw [z]; exact I1.fpOk (Nat.le_succ _) (hfree _ (Nat.le_succ _))
  · rw [List.mem_singleton.mp z]; exact I1.fpOk (Nat.le_refl _) (hfree _ (Nat.le_refl _))

/-! ### list(d) -/
theorem call_listD (hc : X.calm = true) : CallR X (.type "list") (fun vs H Q => ∃ d kvs, vs = [.ref d] ∧ Rd H d (.dK kvs) ∧ ∀ l, H l = none → Q (.ref l) (upd H l (.lst (kvs.map fun kv => kV kv.1)))) := by
  intro pins s σ H xs us Q I r h
  obtain ⟨d, kvs, rfl, hd, q⟩ := h
  obtain ⟨u, rfl, ru⟩ := vals1 r
  cases ru
  obtain ⟨hz, hs, vs, kv, dd⟩ := dk_rd I.hok hd
  obtain ⟨ep, hat⟩ := dd.dictAt
  have hl := kv.length
  refine PySem.W.kdl_call (PySem.W.kdl_dict (knd := mixKind X.prog X.w) (kvs := vs) (ep := ep) hs) (I.ok.hd hc) hat (by rw [← hl]; exact hz) fun h' tk acc c kp hD ha => ?_
  have hv : Vals (kvs.map fun kv => kV kv.1) acc.toList := keys_vals (P := X.prog) (w := X.w) kv (by rw [Array.length_toList]; exact ha.1) fun j v e => by
    obtain ⟨k, x, e1, e2⟩ := ha.2 j v (by rw [← Array.getElem?_toList]; exact e)
    exact ⟨k, x, e1, e2⟩
  refine ⟨.ref s.heap.objs.size, _, I.laid (o := .lst (kvs.map fun kv => kV kv.1)) (t' := tk) kp (Nat.le_refl _) ⟨by rw [List.length_map]; exact hz, acc.toList, c, hv, by rw [Array.toArray_toList]; exact hD⟩, rfl, q _ (I.hok.fresh (Nat.le_refl _))⟩
end
end L2

/-! MY OWN RULES. 6: a walk over a dict's items, keys; defaults -/
namespace L2
open PySem PySem.Spec PyProof.Rows

section
variable {X : Cx} {pins : List (Addr × Obj)} {σ : St} {H : Hp} {s : Shared}

/-- what is tracked as u may be tracked as o' where the new description holds -/
theorem Inv.retrack {d : Addr} {u u' : HO} (I : Inv X pins σ H s) (e : H d = some u) (h1 : ∀ xs, u ≠ .tup xs) (h2 : ∀ b, u ≠ .own b) (h3 : ∀ ob v, X.H₀ d ≠ some (.frz ob v)) (h4 : ∀ ps, u ≠ .tbl ps) (new : ObjOk X.prog X.w (upd H d u') s.heap d u') : Inv X pins σ (upd H d u') s := by
  have nn : ∀ b, H b = none → b ≠ d := fun b n z => by rw [z, e] at n; cases n
  refine ⟨I.ok, I.os, I.bare, ⟨I.base.keep, I.base.slot, fun b ob q n hx => ?_, I.base.there, fun b xs q => ?_, fun b ob xs q => ?_, fun b ps q => ?_⟩, I.loc, I.cell, ?_, fun x c q => ?_, fun p hp => ?_, fun b ob q => ?_, I.len⟩
  · have z := I.base.free b ob q n hx
    rw [upd_ne (nn b z)]; exact z
  · have z := I.base.tups b xs q
    rw [upd_ne fun w => by rw [w, e] at z; exact h1 xs (Option.some.inj z)]; exact z
  · have z := I.base.frzs b ob xs q
    rw [upd_ne fun w => by rw [w] at q; exact h3 _ _ q]; exact z
  · obtain ⟨m, z⟩ := I.base.tbls b ps q
    exact ⟨m, by rw [upd_ne fun w => by rw [w, e] at z; exact h4 _ (Option.some.inj z)]; exact z⟩
  · rw [upd_ne (nn _ I.free)]; exact I.free
  · have z := I.freeC x c q
    rw [upd_ne (nn _ z)]; exact z
  · obtain ⟨a1, a2, a3, a4, a5⟩ := I.pin p hp
    exact ⟨a1, by rw [upd_ne (nn _ a2)]; exact a2, a3, a4, a5⟩
  · by_cases hb : b = d
    · subst hb
      rw [upd_same] at q; cases q
      exact new
    · rw [upd_ne hb] at q
      exact (I.hok b ob q).stay (fun _ _ _ z => z) (fun c z => by rw [upd_ne fun w => by rw [w, e] at z; exact h2 _ (Option.some.inj z)]; exact z) fun c xs z => by rw [upd_ne fun w => by rw [w, e] at z; exact h1 _ (Option.some.inj z)]; exact z

theorem dk_any {P : Program} {w : World} {H H' : Hp} {h : Heap} {d : Addr} {kvs : List (Key × V)} (x : ObjOk P w H h d (.dK kvs)) : ObjOk P w H' h d (.dK kvs) := x
theorem Inv.noFrz {d : Addr} {kvs : List (Key × V)} (I : Inv X pins σ H s) (e : H d = some (.dK kvs)) : ∀ ob v, X.H₀ d ≠ some (.frz ob v) := fun ob v q => by
  have := I.base.frzs d ob v q
  rw [e] at this
  cases this
theorem Inv.freeze {d : Addr} {kvs : List (Key × V)} {o : Obj} (I : Inv X pins σ H s) (e : H d = some (.dK kvs)) (ho : s.heap.get? d = some o) : Inv X pins σ (upd H d (.frz o (.dK kvs))) s :=
  I.retrack e (fun xs z => by cases z) (fun b z => by cases z) (I.noFrz e) (fun ps z => by cases z) ⟨ho, dk_any (I.hok d _ e)⟩
theorem Inv.thaw {d : Addr} {kvs : List (Key × V)} {o : Obj} (I : Inv X pins σ H s) (e : H d = some (.frz o (.dK kvs))) (h3 : ∀ ob v, X.H₀ d ≠ some (.frz ob v)) : Inv X pins σ (upd H d (.dK kvs)) s :=
  I.retrack e (fun xs z => by cases z) (fun b z => by cases z) h3 (fun ps z => by cases z) (dk_any (I.hok d _ e).2)


/-! ### for k, v in d.items() -/
theorem frz_dict {d : Addr} {o : Obj} {es : Array DictEntry} {ep : Nat} {kvs : List (Key × V)} (I : Inv X pins σ H s) (e : H d = some (.frz o (.dK kvs))) (hd : o.data = .dict es ep) : ∃ vs, KV kvs vs ∧ s.heap.DictAt (mixKind X.prog X.w) d vs ep := by
  obtain ⟨ho, _, _, vs, kv, o', es', ep', ho', r1, r2, r⟩ := I.hok d _ e
  have : o' = o := Option.some.inj (ho'.symm.trans ho)
  subst this
  rw [hd] at r2
  cases r2
  exact ⟨vs, kv, o', es, ho, r1, hd, r⟩
theorem key_rel {P : Program} {w : World} {k : Key} {v : Value} (h : (mixKind P w).is k v = true) : RelV (kV k) v := by
  rcases keyIs_shape (show keyIs k v = true from h) with ⟨i, t', rfl, rfl⟩ | ⟨x, t', rfl, rfl⟩
  · exact ⟨t', rfl⟩
  · exact ⟨t', rfl⟩
theorem kv_get {kvs : List (Key × V)} {vs : List (Key × Value)} : KV kvs vs → ∀ {i : Nat} {k : Key} {v : V}, kvs[i]? = some (k, v) → ∃ u, vs[i]? = some (k, u) ∧ RelV v u := by
  intro r
  induction r with
  | nil => intro i k v e; simp at e
  | @cons a b l1 l2 h t ih =>
    intro i k v e
    cases i with
    | zero =>
      obtain ⟨k', u⟩ := b
      have e' : a = (k, v) := by simpa using e
      subst e'
      have hk : k = k' := h.1
      subst hk
      exact ⟨u, rfl, h.2⟩
    | succ i =>
      obtain ⟨u, h1, h2⟩ := ih (i := i) (by simpa using e)
      exact ⟨u, by simpa using h1, h2⟩

end

/-! ### a def with defaults -/
structure FunD (K : PySem.W.Frag) (x qual : Str) (st : Stmt) (f : Addr) (fd : FuncData) (ds : List Value) : Prop where
  ex : ∃ (oc : Value) (od : Option Addr) (T : Addr) (kV doc pm : Value) (an : Option Addr) (cdv ct : Value) (osl : Array (Option Value)) (ot : Value) (tod : Option Addr) (n : Nat) (tsl : Array (Option Value)),
    fd = PySem.W.fnOf x qual (defArgs st) (defBody st) (defScope st) (.ref T) kV doc pm an cdv ct ∧ K.lookup f = some ⟨oc, od, .func fd, osl⟩ ∧ PySem.W.codeIn K cdv qual = true ∧ K.lookup T = some ⟨ot, tod, .seq ds.toArray n, tsl⟩
  kp : PySem.W.keepIn K (.ref f) = true
section
variable {P : Program} {w : World} {K : PySem.W.Frag} {mg : Str → Option Value} {base : Heap}
theorem FunD.ok {x qual : Str} {st : Stmt} {f : Addr} {fd : FuncData} {ds : List Value} {N ps : List Str} {k : Nat} {sp : Sp} (F : FunD K x qual st f fd ds) (S : FnScope N ps (defScope st)) (len : ∀ vs H Q E, sp vs H Q E → vs.length = ps.length)
    (hbody : ∀ (cdv : Value) (A : Around) (outer : List Env) (s : Shared) (H : Hp) (vs : List V) (Q : VK) (E : XK), Room k (A.deeper (envOfC qual (defScope st) s.heap.objs.size f cdv)) → sp vs H Q E →
      ∃ t, PSs (cxOf CX0 P w K mg base N qual (defScope st) f cdv A outer s H E).nox (defBody st) t ∧ t { nx := fun _ H' => Q .non H', rt := Q } (start N vs) H) : FnOk P w K mg base CX0 (k + 1) f fd ps sp := by
  obtain ⟨oc, od, T, kV, doc, pm, an, cdv, ct, osl, ot, tod, n, tsl, rfl, lk, hcd, lt⟩ := F.ex
  refine fn_of lk hcd S len fun A outer s H vs Q E hr hsp => ?_
  obtain ⟨t, h, q⟩ := hbody cdv A outer s H vs Q E hr hsp
  exact ⟨t, h.nox, q⟩
theorem funD_mk {x qual : Str} {st : Stmt} {f T : Addr} {oc : Value} {od an : Option Addr} {osl : Array (Option Value)} {kV doc pm cdv ct : Value} {ot : Value} {tod : Option Addr} {n : Nat} {tsl : Array (Option Value)} {ds : List Value}
    (l : K.lookup f = some ⟨oc, od, .func (PySem.W.fnOf x qual (defArgs st) (defBody st) (defScope st) (.ref T) kV doc pm an cdv ct), osl⟩) (c : PySem.W.codeIn K cdv qual = true) (k : PySem.W.keepIn K (.ref f) = true) (lt : K.lookup T = some ⟨ot, tod, .seq ds.toArray n, tsl⟩) :
    FunD K x qual st f (PySem.W.fnOf x qual (defArgs st) (defBody st) (defScope st) (.ref T) kV doc pm an cdv ct) ds := ⟨⟨oc, od, T, kV, doc, pm, an, cdv, ct, osl, ot, tod, n, tsl, rfl, l, c, lt⟩, k⟩
/-- us given, the last of ds fill up -/
theorem FunD.binds {x qual : Str} {st : Stmt} {f : Addr} {fd : FuncData} {ds more : List Value} {ps : List Str} (F : FunD K x qual st f fd ds)
    (h : ∀ (T : Addr) (kV doc pm : Value) (an : Option Addr) (cdv ct : Value) (us : List Value), (us ++ more).length = ps.length → ∃ k : Option (Array Value) → Sem (List (Str × Value)),
      bindArgs (PySem.W.fnOf x qual (defArgs st) (defBody st) (defScope st) (.ref T) kV doc pm an cdv ct) ⟨us, []⟩ = seqItems? (.ref T) >>= k ∧ k (some ds.toArray) = pure (ps.zip (us ++ more))) : Binds K fd ps more := by
  obtain ⟨oc, od, T, kV, doc, pm, an, cdv, ct, osl, ot, tod, n, tsl, rfl, lk, hcd, lt⟩ := F.ex
  intro s us KX hl
  obtain ⟨k, h1, h2⟩ := h T kV doc pm an cdv ct us hl
  exact BindsTo.of_defaults rfl (KX _ _ lt) rfl h1 h2
end
end L2

namespace L2
open PySem PySem.Spec PyProof.Rows

/-! ### min(d, key = o.m), d a dict -/
section
variable {X : Cx} {pins : List (Addr × Obj)} {σ : St} {H : Hp}
theorem FpOk.turned {s : Shared} {h' : Heap} {t' : Nat} {it : Addr} (f : FpOk X pins H it) (I : Inv X pins σ H s) (k : ∀ b o, b ≠ it → s.heap.get? b = some o → h'.get? b = some o) : Inv X pins σ H { s with heap := h', toks := t' } := by
  obtain ⟨g0, g1, _, g3, g4, g5⟩ := f
  exact I.turned k g0 g1 g3 g4 g5
/-- the least so far -/
def Least (zs : List (V × List Int)) (i n : Nat) : Prop := i < n ∧ ∀ j y z, j < n → zs[j]? = some y → zs[i]? = some z → HT.lexLt y.2 z.2 = false
theorem lex_tr2 {a b c : List Int} (h1 : HT.lexLt a b = true) (h2 : HT.lexLt c b = false) : HT.lexLt c a = false := by
  cases e : HT.lexLt c a with
  | false => rfl
  | true =>
    have := lexLt_tr e h1
    rw [h2] at this
    cases this
theorem minK_loop {kk : Nat} {g a q d S It : Addr} {fd : FuncData} {ps : List Str} {sp : Sp} {A : Around} {R : Result → Shared → Prop} {zs : List (V × List Int)} {kvs : List (Key × V)} {o : Obj} {es : Array DictEntry} {ep : Nat}
    (hh : A.handled = none) (hu : A.in1.units < cLine) (F : FnOk X.prog X.w X.K X.mg X.base CX0 kk g fd ps sp) (hr : Room kk A.in1) (hA : A.in1.frames = X.A.frames) (hb : Binds X.K fd ps []) (hdata : o.data = .dict es ep) (hzs : zs.map (·.1) = kvs.map fun kv => kV kv.1)
    (hsp : ∀ z ∈ zs, ∀ (H' : Hp) (Q' : VK), Same H H' → (∀ t, H' t = none → Q' (.ref t) (upd H' t (.tup (z.2.map V.int)))) → sp [.ref a, z.1] H' Q' E0)
    (hfz : H d = some (.frz o (.dK kvs))) (hq : H q = some (.met g a)) (hIS : It ≠ S)
    (hR : ∀ (i : Nat) (z : V × List Int) (u : Value) (H' : Hp) (s' : Shared), zs[i]? = some z → RelV z.1 u → Least zs i zs.length → Same H H' → Inv X pins σ H' s' → R (.ok (.ret u)) s') :
    ∀ (r j i : Nat) (s : Shared) (H' : Hp) (vb : Value) (tb : Addr) (c : Nat) (z : V × List Int), zs.length - (j + 1) = r → j + 1 ≤ zs.length → Same H H' → Inv X pins σ H' s → FpOk X pins H' It → FpOk X pins H' S →
      s.heap.IsKeyIter It d (j + 1) kvs.length ep → s.heap.get? S = some (seqObj "list" #[vb, .ref tb] c) → zs[i]? = some z → RelV z.1 vb → H' tb = some (.tup (z.2.map V.int)) → Least zs i (j + 1) →
      codeAny (model X.prog X.w) A (.builtin "min.loop" ⟨[.ref It, .ref q, .ref S], []⟩) R s := by
  have hname : (toString "min" ++ toString ".loop" : String) = "min.loop" := by decide
  have hzl : zs.length = kvs.length := by have := congrArg List.length hzs; rw [List.length_map, List.length_map] at this; exact this
  intro r
  induction r with
  | zero =>
    intro j i s H' vb tb c z hr0 hj S1 I fI fS hit hS hz rz ht hL
    have hin : j + 1 = zs.length := by omega
    obtain ⟨vs, kv, hat⟩ := frz_dict I (S1 _ _ hfz) hdata
    have hl := kv.length
    refine codeAny_builtin PySem.F.entry_min_loop ?_
    rw [Around.under_plainId PySem.F.plain_min_loop _]
    show wpAny _ A.in1 (seqItems? (.ref S) >>= _) _ _ _
    refine wpAny_bind (wpAny_seqItems hS rfl ?_)
    show wpAny _ A.in1 (tryCatch (pyNext (.ref It)) _ >>= _) _ _ _
    refine wpAny_bind (wpAny_tryCatch (wpAny_pyNext_dict_end (knd := mixKind X.prog X.w) (A := A.in1) hh (by rw [← hl]; exact hit) hat (by simp; omega) fun h' eb => ?_))
    have I1 : Inv X pins σ H' { s with heap := h' } := fI.turned (t' := s.toks) I fun b u hb e => eb b u hb e
    have hS' := eb S _ (Ne.symm hIS) hS
    have s1 := Heap.SameBut.update h' S (Obj.mapSeq fun _ => (#[] : Array Value))
    show wpAny _ A.in1 (updateSeq S (fun _ => #[]) >>= _) _ _ _
    refine wpAny_bind ?_
    refine wpAny_updateSeq hS' rfl (wpAny_bind (wpAny_letGo (wpAny_pure ?_)))
    exact hR i z vb H' _ hz rz (by rw [← hin]; exact hL) S1 (fS.turned (s := { s with heap := h' }) (t' := s.toks) I1 fun b u hb e => (s1.2 b hb).trans e)
  | succ r ih =>
    intro j i s H' vb tb c z hr0 hj S1 I fI fS hit hS hz rz ht hL
    have hlt : j + 1 < zs.length := by omega
    obtain ⟨vs, kv, hat⟩ := frz_dict I (S1 _ _ hfz) hdata
    have hl := kv.length
    have hkj : j + 1 < kvs.length := by omega
    obtain ⟨u, hu1, ru⟩ := kv_get kv (i := j + 1) (k := kvs[j + 1].1) (v := kvs[j + 1].2) (by simp [hkj])
    refine codeAny_builtin PySem.F.entry_min_loop ?_
    rw [Around.under_plainId PySem.F.plain_min_loop _]
    show wpAny _ A.in1 (seqItems? (.ref S) >>= _) _ _ _
    refine wpAny_bind (wpAny_seqItems hS rfl ?_)
    show wpAny _ A.in1 (tryCatch (pyNext (.ref It)) _ >>= _) _ _ _
    refine wpAny_bind (wpAny_tryCatch (wpAny_pyNext_dict_item (knd := mixKind X.prog X.w) (A := A.in1) (by rw [← hl]; exact hit) hat hu1 fun key h' hkey hit' sb => ?_))
    have I1 : Inv X pins σ H' { s with heap := h' } := fI.turned (t' := s.toks) I fun b u hb e => (sb.2 b hb).trans e
    have hS' : h'.get? S = some (seqObj "list" #[vb, .ref tb] c) := (sb.2 S (Ne.symm hIS)).trans hS
    obtain ⟨oI, hoI, hoc, hod⟩ := id hit'
    have hzj : zs[j + 1]? = some zs[j + 1] := List.getElem?_eq_getElem hlt
    have ek : zs[j + 1].1 = kV kvs[j + 1].1 := by
      have h1 : (zs.map (·.1))[j + 1]? = some zs[j + 1].1 := by rw [List.getElem?_map, hzj]; rfl
      have h2 : (kvs.map fun kv => kV kv.1)[j + 1]? = some (kV kvs[j + 1].1) := by rw [List.getElem?_map, List.getElem?_eq_getElem hkj]; rfl
      rw [hzs, h2] at h1
      exact (Option.some.inj h1).symm
    have rk : RelV zs[j + 1].1 key := by rw [ek]; exact key_rel hkey
    have hzm : zs[j + 1] ∈ zs := List.getElem_mem _
    generalize zs[j + 1] = y at hzj rk hzm
    -- pinned
    have nI : ∀ v, oI.data ≠ .cell v := fun v e => by rw [hod] at e; cases e
    obtain ⟨fI0, fI1, fI2, fI3, fI4, fI5⟩ := id fI
    obtain ⟨fS0, fS1, fS2, fS3, fS4, fS5⟩ := id fS
    have I2 : Inv X [(It, oI), (S, seqObj "list" #[vb, .ref tb] c)] σ H' { s with heap := h' } := I1.pins_of fun p hp => by
      rcases List.mem_cons.mp hp with rfl | hp
      · exact ⟨hoI, fI0, fI1, fI2, nI⟩
      · rw [List.mem_singleton.mp hp]; exact ⟨hS', fS0, fS1, fS2, noSeqCell⟩
    have I2 : Inv X (pins ++ [(It, oI), (S, seqObj "list" #[vb, .ref tb] c)]) σ H' { s with heap := h' } := I1.pins_of fun p hp => by
      rcases List.mem_append.mp hp with hp | hp
      · exact I1.pin p (List.mem_append_right _ hp)
      · exact I2.pin p (List.mem_append_right _ hp)
    show wpAny _ A.in1 (tryCatch (holding [key] (call (.ref q) [key])) _ >>= _) _ _ _
    refine wpAny_bind (wpAny_tryCatch (wpAny_holding (wpAny_mono (method_run (CX := CX0) (Q := fun v H3 => ∃ t, v = .ref t ∧ H' t = none ∧ H3 = upd H' t (.tup (y.2.map V.int))) (E := fun _ _ => False) F hr hA hb I2 (S1 _ _ hq) rk (hsp y hzm H' _ S1 fun t ht => ⟨t, rfl, ht, rfl⟩)) (fun k' s3 hk3 => ?_) fun _ _ f => f.elim)))
    obtain ⟨v, H3, I3, r3, t, rfl, ht3, rfl⟩ := hk3
    cases r3
    have S3 : Same H' (upd H' t (.tup (y.2.map V.int))) := fun b o e => by rw [upd_ne (ne_of_none e ht3)]; exact e
    have htt : (upd H' t (.tup (y.2.map V.int))) t = some (.tup (y.2.map V.int)) := upd_same
    obtain ⟨pI, nI3, _, _, _⟩ := I3.pin (It, oI) (by simp)
    obtain ⟨pS, nS3, _, _, _⟩ := I3.pin (S, seqObj "list" #[vb, .ref tb] c) (by simp)
    have I4 := I3.unpinned
    have fI' := fI.heap nI3
    have fS' := fS.heap nS3
    have htb := S3 _ _ ht
    generalize upd H' t (.tup (y.2.map V.int)) = H3 at *
    obtain ⟨its, r1, p1, _⟩ := I4.tuple (SqT.of htt)
    obtain ⟨its2, r2, p2, _⟩ := I4.tuple (SqT.of htb)
    have hit3 : s3.heap.IsKeyIter It d (j + 1 + 1) kvs.length ep := ⟨oI, pI, hoc, by rw [hod, hl]⟩
    show wpAny _ A.in1 (tryCatch (holding [key, .ref t] (richCompare .Lt (.ref t) (.ref tb) >>= _)) _ >>= _) _ _ _
    refine wpAny_bind (wpAny_tryCatch (wpAny_holding (wpAny_bind ?_)))
    refine (HT.lt_tupInts (prog := X.prog) (w := X.w) (A := A.in1) p1 p2 (intsAre_of r1) (intsAre_of r2) hu ?_ : wpAny (model X.prog X.w) A.in1 (compareOp .Lt (.ref t) (.ref tb)) _ _ s3)
    refine wpAny_bind (wpAny_holding (wpAny_truthy_bool ?_))
    refine wpAny_bind (wpAny_letGo (wpAny_pure ?_))
    cases hb' : HT.lexLt y.2 z.2 with
    | true =>
      have s1 := Heap.SameBut.update s3.heap S (Obj.mapSeq fun _ => #[key, .ref t])
      obtain ⟨c2, hc2⟩ : ∃ c2, (s3.heap.update S (Obj.mapSeq fun _ => #[key, .ref t])).get? S = some (seqObj "list" #[key, .ref t] c2) := ⟨_, get?_update_seq pS fun _ => #[key, .ref t]⟩
      simp only [if_true]
      refine wpAny_bind ?_
      refine wpAny_updateSeq pS rfl (wpAny_bind (wpAny_letGo ?_))
      rw [hname]
      have I5 : Inv X pins σ H3 { s3 with heap := s3.heap.update S (Obj.mapSeq fun _ => #[key, .ref t]) } := fS'.turned (t' := s3.toks) I4 fun b u hb e => (s1.2 b hb).trans e
      refine wpAny_pure ⟨plainId_quiet PySem.F.plain_min_loop _, ih (j + 1) (j + 1) _ H3 key t c2 y (by omega) hlt (S1.trans S3) I5 fI' fS' ⟨oI, (s1.2 It hIS).trans pI, hoc, by rw [hod, hl]⟩ hc2 hzj rk htt ⟨Nat.lt_succ_self _, fun j' y' z' hj' hy' hz' => ?_⟩⟩
      rw [hzj] at hz'
      cases hz'
      by_cases e : j' = j + 1
      · subst e
        rw [hzj] at hy'
        cases hy'
        exact lexLt_irr _
      · exact lex_tr2 hb' (hL.2 j' y' z (by omega) hy' hz)
    | false =>
      simp only [Bool.false_eq_true, if_false]
      refine wpAny_bind (wpAny_letGo ?_)
      rw [hname]
      refine wpAny_pure ⟨plainId_quiet PySem.F.plain_min_loop _, ih (j + 1) i _ H3 vb tb c z (by omega) hlt (S1.trans S3) I4 fI' fS' hit3 pS hz rz htb ⟨Nat.lt_succ_of_lt hL.1, fun j' y' z' hj' hy' hz' => ?_⟩⟩
      rw [hz] at hz'
      cases hz'
      by_cases e : j' = j + 1
      · subst e
        rw [hzj] at hy'
        cases hy'
        exact hb'
      · exact hL.2 j' y' z (by omega) hy' hz

def rMinK (g : Addr) (sp : Sp) (x f : V) (H : Hp) (Q : VK) : Prop := ∃ (q a d : Addr) (kvs : List (Key × V)) (zs : List (V × List Int)), x = .ref d ∧ f = .ref q ∧ H q = some (.met g a) ∧ H d = some (.dK kvs) ∧ zs.map (·.1) = (kvs.map fun kv => kV kv.1) ∧ zs ≠ [] ∧
  (∀ (o : Obj), ∀ z ∈ zs, ∀ (H' : Hp) (Q' : VK), Same (upd H d (.frz o (.dK kvs))) H' → (∀ t, H' t = none → Q' (.ref t) (upd H' t (.tup (z.2.map V.int)))) → sp [.ref a, z.1] H' Q' E0) ∧
  ∀ z ∈ zs, (∀ y ∈ zs, HT.lexLt y.2 z.2 = false) → ∀ H', Same H H' → Q z.1 H'
def tMinK (g : Addr) (sp : Sp) (ti tk : TE) : TE := fun σ H Q => ti σ H fun x H1 => tk σ H1 fun f H2 => rMinK g sp x f H2 Q
theorem minK_call {kk : Nat} {g : Addr} {fd : FuncData} {ps : List Str} {sp : Sp} {x f : V} {u v : Value} {Q : VK} {s : Shared} (hc : X.calm = true) (F : FnOk X.prog X.w X.K X.mg X.base CX0 kk g fd ps sp) (hr : Room (kk + 2) X.A) (hb : Binds X.K fd ps []) (I : Inv X pins σ H s) (rx : RelV x u) (rf : RelV f v) (h : rMinK g sp x f H Q) :
    wpAny (model X.prog X.w) X.A (call (.builtin "min") [u] [(Str.ofString "key", v)]) (EP X pins σ Q) X.xe s := by
  obtain ⟨q, a, d, kvs, zs, rfl, rfl, hq, hd, hzs, hne, hsp, hQ⟩ := h
  cases rf
  cases rx
  have hname : (toString "min" ++ toString ".loop" : String) = "min.loop" := by decide
  have hh : X.A.handled = none := I.ok.hd hc
  have hzl : zs.length = kvs.length := by have := congrArg List.length hzs; rw [List.length_map, List.length_map] at this; exact this
  have hpos : 0 < zs.length := List.length_pos_iff.mpr hne
  have hu : X.A.in1.units < cLine := Nat.lt_of_succ_lt (hu_of hr.in1)
  obtain ⟨hz, hsm, vs, kv, hD⟩ : kvs.length ≤ sizeLine ∧ (d == sysModules) = false ∧ ∃ vs, KV kvs vs ∧ s.heap.DictOf (mixKind X.prog X.w) d vs := I.hok d _ hd
  obtain ⟨o, es, ep, ho, hcl, hdata, hrest⟩ := hD
  have hl := kv.length
  have If := I.freeze hd ho
  have hfz : (upd H d (.frz o (.dK kvs))) d = some (.frz o (.dK kvs)) := upd_same
  have hqd : q ≠ d := ne_of hq hd (by intro z; cases z)
  have hqf : (upd H d (.frz o (.dK kvs))) q = some (.met g a) := by rw [upd_ne hqd]; exact hq
  have hnf := I.noFrz hd
  refine kmk_tree PySem.F.kind_min PySem.F.plain_min PySem.F.entry_min (kmk_min_key _ _) ?_
  show wpAny _ X.A.in1 (Builtin.Builtins.bindParams "min" ["key", "default"] 0 ⟨[], [(Str.ofString "key", .ref q)]⟩ >>= _) _ _ s
  refine wpAny_bind (wpAny_of_eq (show Builtin.Builtins.bindParams "min" ["key", "default"] 0 ⟨[], [(Str.ofString "key", .ref q)]⟩ = pure [some (.ref q), none] from rfl) ?_)
  refine wpAny_bind (wpAny_pure ?_)
  obtain ⟨vs', kv', hat⟩ := frz_dict If hfz hdata
  have hl' := kv'.length
  refine wpAny_bind (wpAny_pyIter_dict (knd := mixKind X.prog X.w) hsm hat ?_)
  refine wpAny_bind (wpAny_newList ?_ (Nat.zero_le _))
  rw [hname]
  have gI0 : ((s.heap.push { cls := .type "dict_keyiterator", data := .fields #[.ref d, .int 0 0, .int vs'.length 0, .int ep 0] }).push (seqObj "list" #[] 0)).get? s.heap.objs.size = some { cls := .type "dict_keyiterator", data := .fields #[.ref d, .int 0 0, .int vs'.length 0, .int ep 0] } :=
    Heap.get?_push_of_some _ (Heap.get?_push_size _ rfl)
  have hS1 : (s.heap.push { cls := .type "dict_keyiterator", data := .fields #[.ref d, .int 0 0, .int vs'.length 0, .int ep 0] }).objs.size = s.heap.objs.size + 1 := size_push' ..
  have gS0 : ((s.heap.push { cls := .type "dict_keyiterator", data := .fields #[.ref d, .int 0 0, .int vs'.length 0, .int ep 0] }).push (seqObj "list" #[] 0)).get? (s.heap.objs.size + 1) = some (seqObj "list" #[] 0) := by
    rw [← hS1]; exact Heap.get?_push_size _ rfl
  have hIS : s.heap.objs.size ≠ s.heap.objs.size + 1 := Nat.ne_of_lt (Nat.lt_succ_self _)
  have kp0 : ∀ b u, s.heap.get? b = some u → ((s.heap.push { cls := .type "dict_keyiterator", data := .fields #[.ref d, .int 0 0, .int vs'.length 0, .int ep 0] }).push (seqObj "list" #[] 0)).get? b = some u := fun b u e => Heap.get?_push_of_some _ (Heap.get?_push_of_some _ e)
  have fI : FpOk X pins (upd H d (.frz o (.dK kvs))) s.heap.objs.size := If.fpOk (Nat.le_refl _) (If.hok.fresh (Nat.le_refl _))
  have fS : FpOk X pins (upd H d (.frz o (.dK kvs))) (s.heap.objs.size + 1) := If.fpOk (Nat.le_succ _) (If.hok.fresh (Nat.le_succ _))
  have I0 := If.kept (t' := s.toks) kp0
  have hit0 : ((s.heap.push { cls := .type "dict_keyiterator", data := .fields #[.ref d, .int 0 0, .int vs'.length 0, .int ep 0] }).push (seqObj "list" #[] 0)).IsKeyIter s.heap.objs.size d 0 vs'.length ep := ⟨_, gI0, rfl, rfl⟩
  have hat0 := (hat.push { cls := .type "dict_keyiterator", data := .fields #[.ref d, .int 0 0, .int vs'.length 0, .int ep 0] }).push (seqObj "list" #[] 0)
  rw [hS1]
  generalize (s.heap.push { cls := .type "dict_keyiterator", data := .fields #[.ref d, .int 0 0, .int vs'.length 0, .int ep 0] }).push (seqObj "list" #[] 0) = h0 at *
  generalize s.heap.objs.size = It at *
  generalize It + 1 = S at *
  refine wpAny_pure ⟨plainId_quiet PySem.F.plain_min_loop _, ?_⟩
  refine codeAny_builtin PySem.F.entry_min_loop ?_
  rw [Around.under_plainId PySem.F.plain_min_loop _]
  show wpAny _ X.A.in1 (seqItems? (.ref _) >>= _) _ _ _
  refine wpAny_bind (wpAny_seqItems gS0 rfl ?_)
  show wpAny _ X.A.in1 (tryCatch (pyNext (.ref It)) _ >>= _) _ _ _
  have hk0 : 0 < kvs.length := by omega
  obtain ⟨u, hu1, ru⟩ := kv_get kv' (i := 0) (k := kvs[0].1) (v := kvs[0].2) (by simp [hk0])
  refine wpAny_bind (wpAny_tryCatch (wpAny_pyNext_dict_item (knd := mixKind X.prog X.w) (A := X.A.in1) hit0 hat0 hu1 fun key h' hkey hit' sb => ?_))
  have I1 : Inv X pins σ (upd H d (.frz o (.dK kvs))) { s with heap := h' } := fI.turned (s := { s with heap := h0 }) (t' := s.toks) I0 fun b u hb e => (sb.2 b hb).trans e
  have hS' : h'.get? S = some (seqObj "list" #[] 0) := (sb.2 S (Ne.symm hIS)).trans gS0
  obtain ⟨oI, hoI, hoc, hod⟩ := id hit'
  have hzj : zs[0]? = some zs[0] := List.getElem?_eq_getElem hpos
  have ek : zs[0].1 = kV kvs[0].1 := by
    have h1 : (zs.map (·.1))[0]? = some zs[0].1 := by rw [List.getElem?_map, hzj]; rfl
    have h2 : (kvs.map fun kv => kV kv.1)[0]? = some (kV kvs[0].1) := by rw [List.getElem?_map, List.getElem?_eq_getElem hk0]; rfl
    rw [hzs, h2] at h1
    exact (Option.some.inj h1).symm
  have rk : RelV zs[0].1 key := by rw [ek]; exact key_rel hkey
  have hzm : zs[0] ∈ zs := List.getElem_mem _
  generalize zs[0] = y at hzj rk hzm
  have nI : ∀ v, oI.data ≠ .cell v := fun v e => by rw [hod] at e; cases e
  obtain ⟨fI0, fI1, fI2, fI3, fI4, fI5⟩ := id fI
  obtain ⟨fS0, fS1, fS2, fS3, fS4, fS5⟩ := id fS
  have I2 : Inv X (pins ++ [(It, oI), (S, seqObj "list" #[] 0)]) σ (upd H d (.frz o (.dK kvs))) { s with heap := h' } := I1.pins_of fun p hp => by
    rcases List.mem_append.mp hp with hp | hp
    · exact I1.pin p (List.mem_append_right _ hp)
    · rcases List.mem_cons.mp hp with rfl | hp
      · exact ⟨hoI, fI0, fI1, fI2, nI⟩
      · rw [List.mem_singleton.mp hp]; exact ⟨hS', fS0, fS1, fS2, noSeqCell⟩
  show wpAny _ X.A.in1 (tryCatch (holding [key] (call (.ref q) [key])) _ >>= _) _ _ _
  refine wpAny_bind (wpAny_tryCatch (wpAny_holding (wpAny_mono (method_run (CX := CX0) (Q := fun v H3 => ∃ t, v = .ref t ∧ (upd H d (.frz o (.dK kvs))) t = none ∧ H3 = upd (upd H d (.frz o (.dK kvs))) t (.tup (y.2.map V.int))) (E := fun _ _ => False) F (hr.mono (by omega)).in1 rfl hb I2 hqf rk (hsp o y hzm _ _ (Same.refl _) fun t ht => ⟨t, rfl, ht, rfl⟩)) (fun k' s3 hk3 => ?_) fun _ _ f => f.elim)))
  obtain ⟨v, H3, I3, r3, t, rfl, ht3, rfl⟩ := hk3
  cases r3
  have S3 : Same (upd H d (.frz o (.dK kvs))) (upd (upd H d (.frz o (.dK kvs))) t (.tup (y.2.map V.int))) := fun b o e => by rw [upd_ne (ne_of_none e ht3)]; exact e
  have htt : (upd (upd H d (.frz o (.dK kvs))) t (.tup (y.2.map V.int))) t = some (.tup (y.2.map V.int)) := upd_same
  obtain ⟨pI, nI3, _, _, _⟩ := I3.pin (It, oI) (by simp)
  obtain ⟨pS, nS3, _, _, _⟩ := I3.pin (S, seqObj "list" #[] 0) (by simp)
  have I4 := I3.unpinned
  have fI' := fI.heap nI3
  have fS' := fS.heap nS3
  generalize upd (upd H d (.frz o (.dK kvs))) t (.tup (y.2.map V.int)) = H3 at *
  have s1 := Heap.SameBut.update s3.heap S (Obj.mapSeq fun _ => #[key, .ref t])
  obtain ⟨c2, hc2⟩ : ∃ c2, (s3.heap.update S (Obj.mapSeq fun _ => #[key, .ref t])).get? S = some (seqObj "list" #[key, .ref t] c2) := ⟨_, get?_update_seq pS fun _ => #[key, .ref t]⟩
  show wpAny _ X.A.in1 (updateSeq S (fun _ => #[key, .ref t]) >>= _) _ _ _
  refine wpAny_bind ?_
  refine wpAny_updateSeq pS rfl ?_
  rw [hname]
  have I5 : Inv X pins σ H3 { s3 with heap := s3.heap.update S (Obj.mapSeq fun _ => #[key, .ref t]) } := fS'.turned (t' := s3.toks) I4 fun b u hb e => (s1.2 b hb).trans e
  refine wpAny_pure ⟨plainId_quiet PySem.F.plain_min_loop _, minK_loop (H := upd H d (.frz o (.dK kvs))) hh hu F (hr.mono (by omega)).in1 rfl hb hdata hzs (hsp o) hfz hqf hIS ?_ _ 0 0 _ H3 key t c2 y rfl hpos S3 I5 fI' fS' ⟨oI, (s1.2 It hIS).trans pI, hoc, by rw [hod, hl']⟩ hc2 hzj rk htt ⟨Nat.lt_succ_self _, fun j' y' z' hj' hy' hz' => ?_⟩⟩
  · intro i z u H' s' hz ru hL SS I'
    have hfz' := SS _ _ hfz
    refine ⟨z.1, upd H' d (.dK kvs), I'.thaw hfz' hnf, ru, hQ z (List.mem_of_getElem? hz) (fun y hy => ?_) _ fun b u e => ?_⟩
    · obtain ⟨j, hj, rfl⟩ := List.getElem_of_mem hy
      exact hL.2 j _ z hj (List.getElem?_eq_getElem hj) hz
    · by_cases hbd : b = d
      · subst hbd; rw [upd_same, ← hd, e]
      · rw [upd_ne hbd]
        exact SS b u (by rw [upd_ne hbd]; exact e)
  · have : j' = 0 := by omega
    subst this
    rw [hy'] at hz'
    cases hz'
    exact lexLt_irr _
theorem pe_minK {kk : Nat} {g : Addr} {fd : FuncData} {ps : List Str} {sp : Sp} {e f : Expr} {ti tk : TE} {p pos kpos : Pos} (hc : X.calm = true) (F : FnOk X.prog X.w X.K X.mg X.base CX0 kk g fd ps sp) (hr : Room (kk + 2) X.A) (hb : Binds X.K fd ps []) (hg : Gl X "min") (hm : X.mg "min" = none)
    (he : PE X e ti) (hf : PE X f tk) (hs : starEach [e] X.env = (false, eval e X.env) :: starEach [] X.env := by rfl) (hbt : backTo pos (starEach [e] X.env) = (false, eval e X.env) :: backTo pos (starEach [] X.env) := by rfl)
    (hpl : (backTo pos (starEach [e] X.env)).any (·.1) = false := by rfl) : PE X (.Call (.Name "min" p) [e] [⟨some "key", f, kpos⟩] pos) (tMinK g sp ti tk) := by
  intro pins s σ H Q I h
  refine wpAny_Call_Name_kw (ld_blt I hg hm boot_min ?_ (by decide) (by decide))
  refine callWith_kw (thn ((pa_cons he pa_nil hs) pos pins s σ H (one1 fun x H1 => tk σ H1 fun f H2 => rMinK g sp x f H2 Q) I h) fun us s1 ⟨vs, H1, I1, r1, q1⟩ => ?_) hbt hpl rfl rfl
  obtain ⟨x, rfl, q1⟩ := one1_of q1
  obtain ⟨u, rfl, ru⟩ := vals1 r1
  refine thn ((pk_cons hf pk_nil) pos pins s1 σ H1 (one1 fun f H2 => rMinK g sp x f H2 Q) I1 q1) fun ws s2 ⟨zs, H2, I2, r2, q2⟩ => ?_
  obtain ⟨f', rfl, q2⟩ := one1_of q2
  obtain ⟨v, rfl, rv⟩ := vals1 r2
  exact minK_call hc F hr hb I2 ru rv q2
end
end L2

/-! MY OWN WORDS. A def with its promise, its binding and its place, without its record -/
namespace L2
open PySem PySem.Spec PyProof.Rows

def FunB (K : PySem.W.Frag) (x qual : Str) (st : Stmt) (f : Addr) (ps : List Str) : Prop := ∃ fd, Fun K x qual st f fd ∧ Binds K fd ps []
def FnP (P : Program) (w : World) (K : PySem.W.Frag) (mg : Str → Option Value) (base : Heap) (k : Nat) (f : Addr) (ps : List Str) (sp : Sp) : Prop := ∃ fd, FnOk P w K mg base CX0 k f fd ps sp ∧ Binds K fd ps [] ∧ PySem.W.keepIn K (.ref f) = true

section
variable {P : Program} {w : World} {K : PySem.W.Frag} {mg : Str → Option Value} {base : Heap}
theorem FunB.ok {x qual : Str} {st : Stmt} {f : Addr} {N ps : List Str} {k : Nat} {sp : Sp} (F : FunB K x qual st f ps) (S : FnScope N ps (defScope st)) (len : ∀ vs H Q E, sp vs H Q E → vs.length = ps.length)
    (hbody : ∀ (cdv : Value) (A : Around) (outer : List Env) (s : Shared) (H : Hp) (vs : List V) (Q : VK) (E : XK), Room k (A.deeper (envOfC qual (defScope st) s.heap.objs.size f cdv)) → sp vs H Q E →
      ∃ t, PSs (cxOf CX0 P w K mg base N qual (defScope st) f cdv A outer s H E).nox (defBody st) t ∧ t { nx := fun _ H' => Q .non H', rt := Q } (start N vs) H) : FnP P w K mg base (k + 1) f ps sp := by
  obtain ⟨fd, F, b⟩ := F
  exact ⟨fd, F.ok S len hbody, b, F.kp⟩
theorem FnP.mono {j k : Nat} {f : Addr} {ps : List Str} {sp : Sp} (F : FnP P w K mg base j f ps sp) (h : j ≤ k) : FnP P w K mg base k f ps sp := by
  obtain ⟨fd, F, b, kp⟩ := F
  exact ⟨fd, F.mono h, b, kp⟩
theorem FnP.imp {k : Nat} {f : Addr} {ps : List Str} {sp sp' : Sp} (F : FnP P w K mg base k f ps sp) (h : ∀ vs H Q E, sp' vs H Q E → sp vs H Q E) : FnP P w K mg base k f ps sp' := by
  obtain ⟨fd, F, b, kp⟩ := F
  exact ⟨fd, F.imp h, b, kp⟩
theorem funB_mk {x qual : Str} {st : Stmt} {f : Addr} {ps : List Str} {oc : Value} {od an : Option Addr} {osl : Array (Option Value)} {kV doc pm cdv ct : Value} (l : K.lookup f = some ⟨oc, od, .func (PySem.W.fnOf x qual (defArgs st) (defBody st) (defScope st) .none kV doc pm an cdv ct), osl⟩)
    (c : PySem.W.codeIn K cdv qual = true) (k : PySem.W.keepIn K (.ref f) = true)
    (h : ∀ (kV doc pm : Value) (an : Option Addr) (cdv ct : Value) (us : List Value), us.length = ps.length → bindArgs (PySem.W.fnOf x qual (defArgs st) (defBody st) (defScope st) .none kV doc pm an cdv ct) ⟨us, []⟩ = pure (ps.zip us)) : FunB K x qual st f ps :=
  have F := fun_mk (st := st) l c k
  ⟨_, F, F.binds h⟩
end

section
variable {X : Cx} {k : Nat} {f C : Addr} {ps : List Str} {sp : Sp} {x m : Str} {p pos apos : Pos} {e o : Expr} {es : List Expr} {ta : TE} {t : TA}
/-- f(e, ..) -/
theorem pe_callP (F : FnP X.prog X.w X.K X.mg X.base k f ps sp) (hr : Room k X.A) (hm : X.mg x = some (.ref f)) (ha : PA X (e :: es) t) (hg : Gl X x := by rfl) (hdb : (x == ("__debug__" : Str)) = false := by decide)
    (he : starEach (e :: es) X.env = (false, eval e X.env) :: starEach es X.env := by rfl) (hpl : (backTo pos (starEach es X.env)).any (·.1) = false := by rfl) : PE X (.Call (.Name x p) (e :: es) [] pos) (tCall sp [] E0 t) := by
  obtain ⟨fd, F, hb, hk⟩ := F
  exact pe_call F hr hg hm hk hb .nil pass0 ha hdb he hpl
/-- o.m(e, ..) -/
theorem pe_methP {pl : Sem Bool} (he : PE X o ta) (c : Cls X.K C) (hm : Meth X.K C m f) (F : FnP X.prog X.w X.K X.mg X.base k f ps sp) (hr : Room k X.A) (ha : PA X (e :: es) t)
    (ht : eval (.Call (.Attribute o m apos) (e :: es) [] pos) X.env = (do
      let ov ← eval o X.env
      standAt apos.atName
      let (f, first) ← holding [ov] (getMethod ov m pl)
      callWith pos f first (backTo pos (starEach (e :: es) X.env)) (backToKw pos (keywordEach [] X.env))) := by rfl)
    (hst : starEach (e :: es) X.env = (false, eval e X.env) :: starEach es X.env := by rfl) (hpl : (backTo pos (starEach es X.env)).any (·.1) = false := by rfl) : PE X (.Call (.Attribute o m apos) (e :: es) [] pos) (tMeth C m sp [] E0 ta t) := by
  obtain ⟨fd, F, hb, hk⟩ := F
  exact pe_meth (pl := pl) he c hm F hr hb .nil pass0 ha hst hpl ht
theorem pe_methP0 {pl : Sem Bool} (he : PE X o ta) (c : Cls X.K C) (hm : Meth X.K C m f) (F : FnP X.prog X.w X.K X.mg X.base k f ps sp) (hr : Room k X.A)
    (ht : eval (.Call (.Attribute o m apos) [] [] pos) X.env = (do
      let ov ← eval o X.env
      standAt apos.atName
      let (f, first) ← holding [ov] (getMethod ov m pl)
      callWith pos f first (backTo pos (starEach [] X.env)) (backToKw pos (keywordEach [] X.env))) := by rfl) : PE X (.Call (.Attribute o m apos) [] [] pos) (tMeth C m sp [] E0 ta tNil) := by
  obtain ⟨fd, F, hb, hk⟩ := F
  exact pe_meth0 (pl := pl) he c hm F hr hb .nil pass0 ht
end

/-! ### loops and comprehensions over any iterator of n turns -/
def LcW (n : Nat) (Pv : Nat → List V → St → Hp → Prop) : Nat → Nat → List V → St → Hp → Prop := fun i m ys σ H => m = n - i ∧ i ≤ n ∧ ys.length ≤ i ∧ Pv i ys σ H
theorem lcYes {n i : Nat} {ys : List V} {y : V} {Pv : Nat → List V → St → Hp → Prop} {σ : St} {H : Hp} (hi : i < n) (hl : ys.length ≤ i) (hn : n ≤ sizeLine) (p : Pv (i + 1) (ys ++ [y]) σ H) : ys.length < sizeLine ∧ ∃ m', m' < n - i ∧ LcW n Pv (i + 1) m' (ys ++ [y]) σ H :=
  ⟨by omega, n - (i + 1), by omega, rfl, hi, by rw [List.length_append, List.length_singleton]; omega, p⟩
theorem lcNo {n i : Nat} {ys : List V} {Pv : Nat → List V → St → Hp → Prop} {σ : St} {H : Hp} (hi : i < n) (hl : ys.length ≤ i) (p : Pv (i + 1) ys σ H) : ∃ m', m' < n - i ∧ LcW n Pv (i + 1) m' ys σ H :=
  ⟨n - (i + 1), by omega, rfl, hi, by omega, p⟩
theorem lc_go {J : It} {cap : List (Option Nat)} {g : TG} {tc : TT} {te : TE} {Q : VK} {σ : St} {H : Hp} (n : Nat) (Pv : Nat → List V → St → Hp → Prop) (h0 : Pv 0 [] (capS cap σ) H) (hn : n ≤ sizeLine)
    (hgo : ∀ i ys σ H, i < n → Pv i ys σ H → J.go i H) (hstop : ∀ ys σ H, Pv n ys σ H → J.stop n H)
    (hs : ∀ i ys σ H x H2, i < n → ys.length ≤ i → Pv i ys σ H → J.yld i H x H2 → g x σ H2 fun σ3 H3 => tc σ3 H3 fun b H4 => if b = true then te σ3 H4 fun y H5 => ys.length < sizeLine ∧ ∃ m', m' < n - i ∧ LcW n Pv (i + 1) m' (ys ++ [y]) σ3 H5 else ∃ m', m' < n - i ∧ LcW n Pv (i + 1) m' ys σ3 H4)
    (hd : ∀ ys σ H, Pv n ys σ H → ∀ p, H p = none → Q (.ref p) (upd H p (.lst ys))) : LcG cap g tc te σ Q J H := by
  refine ⟨LcW n Pv, ⟨n, by simp, Nat.zero_le _, Nat.le_refl _, h0⟩, ?_⟩
  rintro i m ys σ' H' ⟨rfl, hi, hl, p⟩
  refine ⟨by omega, ?_⟩
  by_cases hlt : i < n
  · exact .inr ⟨hgo i ys σ' H' hlt p, fun x H2 y => hs i ys σ' H' x H2 hlt hl p y⟩
  · have e : i = n := by omega
    subst e
    exact .inl ⟨hstop ys σ' H' p, hd ys σ' H' p⟩
theorem for_go {J : It} {g : TG} {tb : TS} {D : Ends} {σ : St} {H : Hp} (n : Nat) (Pv : Nat → St → Hp → Prop) (h0 : Pv 0 σ H) (hgo : ∀ i σ H, i < n → Pv i σ H → J.go i H) (hstop : ∀ σ H, Pv n σ H → J.stop n H)
    (hs : ∀ i σ H x H', i < n → Pv i σ H → J.yld i H x H' → g x σ H' fun σ2 H2 => tb { D with nx := Pv (i + 1), ct := Pv (i + 1), bk := D.nx } σ2 H2) (hd : ∀ σ H, Pv n σ H → D.nx σ H) :
    ∃ W : Nat → Nat → St → Hp → Prop, (∃ m, W 0 m σ H) ∧ ∀ i m σ H, W i m σ H →
      (J.stop i H ∧ D.nx σ H) ∨ (J.go i H ∧ ∃ N : St → Hp → Prop, (∀ σ' H', N σ' H' → ∃ m', m' < m ∧ W (i + 1) m' σ' H') ∧ ∀ x H', J.yld i H x H' → g x σ H' fun σ2 H2 => tb { D with nx := N, ct := N, bk := D.nx } σ2 H2) := by
  refine ⟨fun i m σ H => m = n - i ∧ i ≤ n ∧ Pv i σ H, ⟨n, by simp, Nat.zero_le _, h0⟩, ?_⟩
  rintro i m σ H ⟨rfl, hi, p⟩
  by_cases hlt : i < n
  · exact .inr ⟨hgo i σ H hlt p, Pv (i + 1), fun σ' H' p' => ⟨n - (i + 1), by omega, rfl, hlt, p'⟩, fun x H' y => hs i σ H x H' hlt p y⟩
  · have e : i = n := by omega
    subst e
    exact .inl ⟨hstop σ H p, hd σ H p⟩
theorem Same.upd {H : Hp} {l : Addr} {o : HO} (h : H l = none) : Same H (upd H l o) := fun b u e => by rw [upd_ne (ne_of_none e h)]; exact e

/-! ### an operation that hands on a letter -/
theorem OpR.letter {X : Cx} {f : Value → Value → Sem Value} {C : Int → Int → Prop} {g : Int → Int → Int} (h : OpR X f (rI C fun i j => .int (g i j))) : OpR X f (fun x y H Q => ∃ i j, x = .int i ∧ y = .int j ∧ C i j ∧ ∀ z, z = g i j → Q (.int z) H) := by
  intro pins s σ H x y v u Q I rx ry q
  obtain ⟨i, j, e1, e2, hc, q⟩ := q
  exact h pins s σ H x y v u Q I rx ry ⟨i, j, e1, e2, hc, q _ rfl⟩
theorem OpR.letter0 {X : Cx} {f : Value → Value → Sem Value} {g : Int → Int → Int} (h : OpR X f (rI0 fun i j => .int (g i j))) : OpR X f (fun x y H Q => ∃ i j, x = .int i ∧ y = .int j ∧ ∀ z, z = g i j → Q (.int z) H) := by
  intro pins s σ H x y v u Q I rx ry q
  obtain ⟨i, j, e1, e2, q⟩ := q
  exact h pins s σ H x y v u Q I rx ry ⟨i, j, e1, e2, q _ rfl⟩
end L2

/-! MY OWN RULES. A def read off its class: C.m(e, ..) -/
namespace L2
open PySem PySem.Spec PyProof.Rows
structure CMeth (K : PySem.W.Frag) (C : Addr) (m : Str) (f : Addr) : Prop where
  sp : PySem.W.specialIn K (.ref C) "__getattribute__" = some (some (.builtin "type.__getattribute__"))
  rd : PySem.W.readsIn K C (.type "type") = true
  fc : PySem.W.findCls K (.ref C) (.type "type") m = some (PySem.W.CFound.val (.ref f))
section
variable {X : Cx} {k : Nat} {f C : Addr} {ps : List Str} {sp : Sp} {x m : Str} {p pos apos : Pos} {e : Expr} {es : List Expr} {t : TA}
theorem pe_clsP {pl : Sem Bool} (hm : X.mg x = some (.ref C)) (c : CMeth X.K C m f) (F : FnP X.prog X.w X.K X.mg X.base k f ps sp) (hr : Room k X.A) (ha : PA X (e :: es) t) (hg : Gl X x := by rfl) (hdb : (x == ("__debug__" : Str)) = false := by decide)
    (ht : eval (.Call (.Attribute (.Name x p) m apos) (e :: es) [] pos) X.env = (do
      let ov ← eval (.Name x p) X.env
      standAt apos.atName
      let (f, first) ← holding [ov] (getMethod ov m pl)
      callWith pos f first (backTo pos (starEach (e :: es) X.env)) (backToKw pos (keywordEach [] X.env))) := by rfl)
    (hst : starEach (e :: es) X.env = (false, eval e X.env) :: starEach es X.env := by rfl) (hpl : (backTo pos (starEach es X.env)).any (·.1) = false := by rfl) : PE X (.Call (.Attribute (.Name x p) m apos) (e :: es) [] pos) (tCall sp [] E0 t) := by
  obtain ⟨fd, F, hb, hk⟩ := F
  intro pins s σ H Q I h
  refine PySem.W.methodCall_KW (pl := pl) (ld_glob I hg hm ?_ hdb) ht
  refine PySem.W.method_cls I.kIn c.sp (PySem.W.cls_value I.kIn c.rd c.fc rfl ?_)
  refine PySem.W.callWith_K (first := []) (h₀ := X.base) I.ok.mod.kin hk (thn (ha pos pins _ σ H _ (I.tok _) h) fun us s2 ⟨vs, H2, I2, r, q2⟩ => ⟨I2.kIn, ?_⟩) hst hpl
  exact run_fn F hr hb .nil pass0 I2 r q2
/-- a statement whose ways come together -/
def tJoin (t : TS) : TS := fun D σ H => ∃ J : St → Hp → Prop, t { D with nx := J } σ H ∧ ∀ σ' H', J σ' H' → D.nx σ' H'
theorem ps_join {st : Stmt} {t : TS} (h : PS X st t) : PS X st (tJoin t) := by
  intro pins s σ H D I hq
  obtain ⟨J, q, j⟩ := hq
  refine thn (h pins s σ H _ I q) fun f s1 h1 => ?_
  cases f with
  | next => obtain ⟨σ1, H1, I1, q⟩ := h1; exact ⟨σ1, H1, I1, j _ _ q⟩
  | brk => exact h1
  | cont => exact h1
  | ret u => exact h1
end
end L2

/-! MY OWN RULES. set(x) of a list of texts that differ, and its len -/
namespace L2
open PySem PySem.Spec PyProof.Rows


section
variable {X : Cx}
end
end L2

/-! MY OWN RULES. list.index, sum(..), sorted(..) of ints, a walk over a dict's keys -/
namespace L2
open PySem PySem.Spec PyProof.Rows
section
variable {X : Cx} {pins : List (Addr × Obj)} {σ : St} {H : Hp} {s : Shared}
/-! ### xs.index(y) -/

/-! ### sum(xs) of ints -/

/-! ### sorted(xs) of ints -/

/-! ### for k in d -/
end
end L2

namespace L2
open PySem PySem.Spec PyProof.Rows
/-! ### for a, b in zip(xs, ys) -/
section
variable {X : Cx}

/-! ### list(range(a, b)) -/

/-! ### sorted(xs) of texts -/
end
end L2

namespace L2
open PySem PySem.Spec PyProof.Rows PySem.W
/-! ### sorted(xs) of tuples that begin with different texts -/
section
variable {prog : Program} {w : World} {A : Around} {E : Value → Shared → Prop} {s : Shared}
end
section
variable {X : Cx} {pins : List (Addr × Obj)} {σ : St} {H : Hp} {s : Shared}
/-! ### lists of tuples that are alike -/
theorem eqV_flat : ∀ {x : V}, flatV x = true → eqV x x = true := by
  intro x h
  cases x <;> first | rfl | (simp [eqV]; done) | (simp [flatV] at h; done) | skip
def rNeT (K : PySem.W.Frag) (neg : Bool) : R2 := fun x y H Q => ∃ (p q : Addr) (xs ys : List (Addr × List V)), x = .ref p ∧ y = .ref q ∧ SqL K H p (xs.map fun z => V.ref z.1) ∧ SqL K H q (ys.map fun z => V.ref z.1) ∧ (∀ z ∈ xs, SqT K H z.1 z.2 ∧ z.2.all flatV = true) ∧ (∀ z ∈ ys, SqT K H z.1 z.2) ∧ xs.map (·.2) = ys.map (·.2) ∧ Q (.bl (!neg)) H
theorem tuples_alike {A : Around} (hu : A.units < cLine) (I : Inv X pins σ H s) {xs ys : List (Addr × List V)} {us ws : List Value} (r1 : Vals (xs.map fun z => V.ref z.1) us) (r2 : Vals (ys.map fun z => V.ref z.1) ws) (hx : ∀ z ∈ xs, SqT X.K H z.1 z.2 ∧ z.2.all flatV = true) (hy : ∀ z ∈ ys, SqT X.K H z.1 z.2) (e : xs.map (·.2) = ys.map (·.2)) :
    ∀ j (h1 : j < us.toArray.size) (h2 : j < ws.toArray.size), SeqAt.EqAt A s us.toArray[j] ws.toArray[j] true := fun j h1 h2 => by
  have l1 := r1.length
  have l2 := r2.length
  rw [List.length_map] at l1 l2
  have j1 : j < us.length := by simpa using h1
  have j2 : j < ws.length := by simpa using h2
  have k1 : j < xs.length := by omega
  have k2 : j < ys.length := by omega
  obtain ⟨u, e1, q1⟩ := r1.get (i := j) (x := .ref xs[j].1) (by simp [k1])
  obtain ⟨v, e2, q2⟩ := r2.get (i := j) (x := .ref ys[j].1) (by simp [k2])
  have d1 : us.toArray[j] = u := by
    have : us[j]? = some us[j] := by simp [j1]
    rw [this] at e1; simpa using Option.some.inj e1
  have d2 : ws.toArray[j] = v := by
    have : ws[j]? = some ws[j] := by simp [j2]
    rw [this] at e2; simpa using Option.some.inj e2
  rw [d1, d2]
  cases q1
  cases q2
  have ej : xs[j].2 = ys[j].2 := by
    have := congrArg (fun l => l[j]?) e
    simp [k1, k2] at this
    exact this
  by_cases ea : xs[j].1 = ys[j].1
  · rw [ea]; exact SeqAt.EqAt.same _
  · obtain ⟨t1, f1⟩ := hx _ (List.getElem_mem k1)
    have t2 := hy _ (List.getElem_mem k2)
    obtain ⟨a1, v1, p1, _⟩ := I.tuple t1
    obtain ⟨a2, v2, p2, _⟩ := I.tuple t2
    rw [← ej] at v2
    have m1 := v1.length
    have m2 := v2.length
    have hh := SeqAt.RcAt.tuples (A := A) (e := fun _ => true) (show s.heap.IsTuple _ a1.toArray from p1) (show s.heap.IsTuple _ a2.toArray from p2) hu fun i i1 i2 => by
      have i1' : i < a1.length := by simpa using i1
      have i2' : i < a2.length := by simpa using i2
      have i3 : i < xs[j].2.length := by omega
      obtain ⟨u, e1, q1⟩ := v1.get (i := i) (x := xs[j].2[i]) (by simp [i3])
      obtain ⟨v, e2, q2⟩ := v2.get (i := i) (x := xs[j].2[i]) (by simp [i3])
      have d1 : a1.toArray[i] = u := by
        have : a1[i]? = some a1[i] := by simp [i1']
        rw [this] at e1; simpa using Option.some.inj e1
      have d2 : a2.toArray[i] = v := by
        have : a2[i]? = some a2[i] := by simp [i2']
        rw [this] at e2; simpa using Option.some.inj e2
      have fl := List.all_eq_true.mp f1 _ (List.getElem_mem i3)
      have := eqAt_V (A := A.in1) (s := s) q1 q2 fl fl
      rw [eqV_flat fl] at this
      rw [d1, d2]
      exact this
    have et : ((List.range (min a1.toArray.size a2.toArray.size)).all (fun _ => true) && a1.toArray.size == a2.toArray.size) = true := by
      have : a1.toArray.size = a2.toArray.size := by simp; omega
      simp [this]
    rw [et] at hh
    exact SeqAt.EqAt.of_refs ea hh
theorem op_neT (hu : X.A.units + 1 < cLine) : OpR X (compareOp .NotEq) (rNeT X.K true) := by
  intro pins s σ H x y v u Q I rx ry h
  obtain ⟨p, q, xs, ys, rfl, rfl, h1, h2, hx, hy, e, hq⟩ := h
  cases rx
  cases ry
  obtain ⟨us, r1, p1, _⟩ := I.list h1
  obtain ⟨ws, r2, p2, _⟩ := I.list h2
  have l1 := r1.length
  have l2 := r2.length
  have l3 := congrArg List.length e
  simp only [List.length_map] at l1 l2 l3
  refine SeqAt.RcNeAt.lists p1.isList p2.isList (by simp; omega) (Nat.lt_of_succ_lt hu) (tuples_alike (A := X.A.in1) hu I r1 r2 hx hy e) _ _ _ _ ?_
  rw [show ((List.range us.toArray.size).all fun _ => true) = true by simp]
  exact fin_bl I hq rfl
end
end L2

namespace L2
open PySem PySem.Spec PyProof.Rows PySem.W
/-! MY OWN RULES. dict(pairs), any(..), xs.remove(y), == of tuples and of lists of tuples -/
namespace F2
theorem entry_dict_update_loop : entryFor table "dict.update.loop" = some Builtin.«dict.update.loop» := entryFor_of_tree (by kernel_rfl)
theorem plain_dict_update_loop : plainId "dict.update.loop" = true := by decide +kernel
theorem list_no_keys : typeLookup (.type "list") "keys" = pure none := am_miss_of_fast (by decide +kernel)
end F2
section
variable {prog : Program} {w : World} {A : Around} {E : Value → Shared → Prop} {s : Shared} {a : Addr}
theorem no_keys {o : Obj} {xs : Array Value} {k : Nat} {Q : Option Value → Shared → Prop} (hx : s.heap.get? a = some o) (hc : o.cls = .type "list") (hdat : o.data = .seq xs k) (hd : o.dict = none) (hA : A.handled = none)
    (h : ∀ h' tk, (∀ b u, s.heap.get? b = some u → h'.get? b = some u) → Q none { s with heap := h', toks := tk }) : wpAny (model prog w) A (getAttr? (.ref a) "keys") Q E s := by
  obtain ⟨c, dct, dat, sl⟩ := o
  simp only at hc hdat hd
  subst hc hdat hd
  obtain ⟨hp, g, d, tk, os⟩ := s
  have hT : ∀ tk', (⟨hp, g, d, tk', os⟩ : Shared).TypeIs (.ref a) "list" := fun _ => ⟨_, hx, rfl⟩
  have f1 := sub_AttributeError
  have f3 := F.slot_list_getattribute.lookup
  have f4 := F.slot_list_getattribute.bind (.ref a)
  have f5 := am_list_getattr_none
  have f6 := F2.list_no_keys
  unfold getAttr? getAttrBy? getAttrBy
  repeat (any_goals (first | assumption | exact hT _ | ((with_reducible show wpAny _ _ (call (Value.builtin "list.__getattribute__") _ _) _ _ _); refine call_meets F.slot_list_getattribute (hT _) am_entry_list_getattribute (F.args_list_getattribute_2 _ _) (meets_getattribute_miss_list a xs k sl "keys" _ f6 (by decide +kernel) (by size_fits)) ⟨hx, hA, fun h' tk' e hx' => ?_⟩) | wp_step))
  obtain ⟨t', u', he⟩ := hx'.there
  show wpAny _ _ (getattributeRaised _ _ _ _ _ _ _) _ _ _
  unfold getattributeRaised
  repeat (any_goals (first | assumption | wp_step))
  exact h h' tk' hx'.keeps
end
section
variable {prog : Program} {w : World} {K : Type} [DecidableEq K] {knd : KeyKind prog w K} {A : Around} {R : Result → Shared → Prop} {I ax d : Addr} {its : List Value} {ps : List (K × Value)}
theorem merged_len : ∀ (l acc : List (K × Value)), (merged acc l).length ≤ acc.length + l.length
  | [], acc => Nat.le_refl _
  | x :: r, acc => by
    have h := merged_len r (stored acc x.1 x.2)
    have e : (stored acc x.1 x.2).length ≤ acc.length + 1 := by
      unfold stored
      split
      · rw [List.length_map]; omega
      · rw [List.length_append]; exact Nat.le_refl _
    show (merged (stored acc x.1 x.2) r).length ≤ _
    rw [List.length_cons]
    omega
theorem dict_loop (hh : A.in1.handled = none) (hne : ax ≠ I) (hdI : d ≠ I) (hda : d ≠ ax) (hlen : its.length = ps.length) (hz : ps.length ≤ sizeLine) : ∀ (k i : Nat) (s : Shared), ps.length - i = k → i ≤ ps.length →
    s.heap.IsListIter I ax i ∧ s.heap.IsList ax its.toArray → s.heap.DictOf knd d (merged [] (ps.take i)) →
    (∀ (j : Nat) (v : Value) (p : K × Value), its[j]? = some v → ps[j]? = some p → ∃ a o n key, v = .ref a ∧ a ≠ d ∧ a ≠ I ∧ s.heap.get? a = some o ∧ o.cls = .type "tuple" ∧ o.data = .seq #[key, p.2] n ∧ knd.is p.1 key = true) →
    (∀ h' tk, h'.DictOf knd d (merged [] ps) → (∀ b u, b ≠ d → b ≠ I → s.heap.get? b = some u → h'.get? b = some u) → R (.ok (.ret .none)) { s with heap := h', toks := tk }) →
    codeAny (model prog w) A (.builtin "dict.update.loop" ⟨[.ref d, .ref I, rawInt i, .none], []⟩) R s := by
  have W : Walks prog w A.in1 I [I, ax] [I] its.toArray.size (fun i v => its.toArray[i]? = some v) (fun i h => h.IsListIter I ax i ∧ h.IsList ax its.toArray) := Walks.list hh I ax hne its.toArray
  have hsz : its.toArray.size = ps.length := by simp [hlen]
  intro k
  induction k with
  | zero =>
    intro i s hk hi hst hD hT hR
    have hin : i = ps.length := by omega
    subst hin
    refine codeAny_builtin F2.entry_dict_update_loop ?_
    rw [Around.under_plainId F2.plain_dict_update_loop _]
    show wpAny _ A.in1 (pyNext (.ref I) >>= _) _ _ s
    refine wpAny_bind (W.done s _ _ (by rw [hsz]; exact hst) fun h' tk hk' => ?_)
    show wpAny _ _ (Builtin.Dict.addKeywords d [] >>= _) _ _ _
    refine wpAny_bind (wpAny_pure (wpAny_pure ?_))
    rw [List.take_length] at hD
    refine hR h' tk ?_ fun b u _ hb e => hk' b u (by simpa using hb) e
    obtain ⟨o, es, ep, ho, r⟩ := hD
    exact ⟨o, es, ep, hk' _ _ (by simpa using hdI) ho, r⟩
  | succ k ih =>
    intro i s hk hi hst hD hT hR
    have hlt : i < ps.length := by omega
    refine codeAny_builtin F2.entry_dict_update_loop ?_
    rw [Around.under_plainId F2.plain_dict_update_loop _]
    show wpAny _ A.in1 (pyNext (.ref I) >>= _) _ _ s
    refine wpAny_bind (W.item i s _ _ (by rw [hsz]; exact hlt) hst fun v h' tk hP hst' hk' => ?_)
    have hP' : its[i]? = some v := by simpa using hP
    obtain ⟨a, o, n, key, rfl, nad, naI, ho, hc, hdat, hkey⟩ := hT i v ps[i] hP' (List.getElem?_eq_getElem hlt)
    have ho' : h'.get? a = some o := hk' a o (by simpa using naI) ho
    have hD' : h'.DictOf knd d (merged [] (ps.take i)) := by
      obtain ⟨o, es, ep, ho, r⟩ := hD
      exact ⟨o, es, ep, hk' _ _ (by simpa using hdI) ho, r⟩
    show wpAny _ A.in1 (holding [Value.ref a] _ >>= _) _ _ _
    refine wpAny_bind (wpAny_holding ?_)
    refine wpAny_bind (wpAny_tryCatch ?_)
    unfold Builtin.Dict.pairItems
    refine wpAny_bind (wpAny_typeOf (T := "tuple") ⟨o, ho', hc⟩ ?_)
    rw [if_pos (by decide)]
    refine wpAny_bind (wpAny_seqItems ho' hdat (wpAny_pure ?_))
    show wpAny _ A.in1 (holding [key, ps[i].2] (dictSet d key ps[i].2)) _ _ _
    refine wpAny_holding (wpAny_dictSet_pairs (s := { s with heap := h', toks := tk }) hkey hD' (fun h2 hD2 hs2 => ?_) ?_)
    · refine wpAny_pure ⟨plainId_quiet F2.plain_dict_update_loop _, ?_⟩
      have e2 : stored (merged [] (ps.take i)) ps[i].1 ps[i].2 = merged [] (ps.take (i + 1)) := (merged_take_succ [] ps i ps[i] (List.getElem?_eq_getElem hlt)).symm
      rw [e2] at hD2
      have kp : ∀ b u, b ≠ d → b ≠ I → s.heap.get? b = some u → h2.get? b = some u := fun b u h1 h3 e => (hs2.2 b h1).trans (hk' b u (by simpa using h3) e)
      refine ih (i + 1) _ (by omega) hlt ⟨?_, ?_⟩ hD2 (fun j v p e1 e3 => ?_) fun h3 tk3 hD3 kp3 => hR h3 tk3 hD3 fun b u h1 h4 e => kp3 b u h1 h4 (kp b u h1 h4 e)
      · obtain ⟨ob, x, r⟩ := hst'.1
        exact ⟨ob, (hs2.2 I (Ne.symm hdI)).trans x, r⟩
      · obtain ⟨ob, x, r⟩ := hst'.2
        exact ⟨ob, (hs2.2 ax (Ne.symm hda)).trans x, r⟩
      · obtain ⟨a, o, n, key, z1, z2, z3, z4, z5⟩ := hT j v p e1 e3
        exact ⟨a, o, n, key, z1, z2, z3, kp a o z2 z3 z4, z5⟩
    · have := merged_len (ps.take i) []
      rw [List.length_take] at this
      show (merged [] (ps.take i)).length ≤ sizeLine
      rw [List.length_nil] at this
      omega
variable {E : Value → Shared → Prop} {s : Shared}
theorem call_dict_pairs {o : Obj} {n : Nat} {Q : Value → Shared → Prop} (hh : A.in1.handled = none) (ho : s.heap.get? ax = some o) (hc : o.cls = .type "list") (hd : o.dict = none) (hdat : o.data = .seq its.toArray n) (hlen : its.length = ps.length) (hz : ps.length ≤ sizeLine)
    (hT : ∀ (j : Nat) (v : Value) (p : K × Value), its[j]? = some v → ps[j]? = some p → ∃ a o n key, v = .ref a ∧ s.heap.get? a = some o ∧ o.cls = .type "tuple" ∧ o.data = .seq #[key, p.2] n ∧ knd.is p.1 key = true)
    (h : ∀ h' tk, h'.DictOf knd s.heap.objs.size (merged [] ps) → (∀ b u, s.heap.get? b = some u → h'.get? b = some u) → Q (.ref s.heap.objs.size) { s with heap := h', toks := tk }) :
    wpAny (model prog w) A (call (.type "dict") [.ref ax]) Q E s := by
  refine callType_codes (Q₁ := fun obj s₁ => obj = .ref s.heap.objs.size ∧ s₁ = { s with heap := s.heap.push { cls := .type "dict", data := .dict #[] } }) F.kt_called_dict (F.kt_typeCall_dict_1 _) F.entry_dict_init (kt_code_dict_new _ ⟨rfl, rfl⟩) ?_
  rintro obj s₁ ⟨rfl, rfl⟩
  have hnew : (s.heap.push { cls := .type "dict", data := .dict #[] }).DictOf knd s.heap.objs.size [] := Heap.DictOf.new s.heap
  have k0 : ∀ b u, s.heap.get? b = some u → (s.heap.push { cls := .type "dict", data := .dict #[] }).get? b = some u := fun b u e => Heap.get?_push_of_some _ e
  have sz0 : (s.heap.push { cls := .type "dict", data := .dict #[] }).objs.size = s.heap.objs.size + 1 := by simp [Heap.push]
  refine ⟨hnew.typeIs, F.args_dict_init_2 _ _, ?_⟩
  unfold Builtin.«dict.__init__»
  refine wpAny_bind ?_
  unfold Builtin.Dict.selfAndRest
  refine wpAny_bind (wpAny_notOrdered_dict hnew.typeIs ?_)
  show wpAny _ _ (pure (s.heap.objs.size, [Value.ref ax])) _ _ _
  refine wpAny_pure ?_
  show wpAny _ _ (Builtin.Dict.updateFrom "dict.__init__" s.heap.objs.size (.ref ax) [] .none) _ _ _
  unfold Builtin.Dict.updateFrom
  refine wpAny_bind (wpAny_typeOf (T := "list") ⟨o, k0 _ _ ho, hc⟩ ?_)
  rw [if_pos (by decide)]
  refine wpAny_bind (no_keys (k0 _ _ ho) hc hdat hd hh fun h1 tk1 k1 => ?_)
  rw [if_pos (by rfl)]
  refine wpAny_bind (wpAny_rule ?_)
  have hl1 : h1.IsList ax its.toArray := ⟨o, k1 _ _ (k0 _ _ ho), hc, n, hdat⟩
  refine wpAny_bind (wpAny_pyIter_list (s := { s with heap := h1, toks := tk1 }) hl1 ?_)
  have nl : ax ≠ h1.objs.size := Nat.ne_of_lt (Heap.lt_size (k1 _ _ (k0 _ _ ho)))
  have lt1 : ∀ b u, s.heap.get? b = some u → b < h1.objs.size := fun b u e => Heap.lt_size (k1 _ _ (k0 _ _ e))
  have ltd : s.heap.objs.size < h1.objs.size := by
    obtain ⟨od, _, _, e, _⟩ := hnew
    exact Heap.lt_size (k1 _ _ e)
  refine wpAny_pure ⟨plainId_quiet F2.plain_dict_update_loop _, ?_⟩
  refine dict_loop (A := A.in1) (knd := knd) (ax := ax) (its := its) (ps := ps) (show A.in1.in1.handled = none from hh) nl (Nat.ne_of_lt ltd) (Nat.ne_of_gt (Heap.lt_size ho)) hlen hz ps.length 0 _ (Nat.sub_zero _) (Nat.zero_le _) ?_ ?_ (fun j v p e1 e2 => ?_) fun h2 tk2 hD2 k2 => ?_
  · exact ⟨⟨_, Heap.get?_push_size _ rfl, rfl, rfl⟩, hl1.push _⟩
  · obtain ⟨od, es, ep, e, r⟩ := hnew
    exact ⟨od, es, ep, Heap.get?_push_of_some _ (k1 _ _ e), r⟩
  · obtain ⟨a, oa, na, key, rfl, z1, z2⟩ := hT j v p e1 e2
    exact ⟨a, oa, na, key, rfl, Nat.ne_of_lt (Heap.lt_size z1), Nat.ne_of_lt (lt1 _ _ z1), Heap.get?_push_of_some _ (k1 _ _ (k0 _ _ z1)), z2⟩
  · exact ⟨rfl, h h2 tk2 hD2 fun b u e => k2 b u (Nat.ne_of_lt (Heap.lt_size e)) (Nat.ne_of_lt (lt1 _ _ e)) (Heap.get?_push_of_some _ (k1 _ _ (k0 _ _ e)))⟩
end
section
variable {X : Cx} {pins : List (Addr × Obj)} {σ : St} {H : Hp} {s : Shared}
theorem pairs_of (I : Inv X pins σ H s) : ∀ {zs : List (Addr × Key × V)} {its : List Value}, (∀ z ∈ zs, SqT X.K H z.1 [kV z.2.1, z.2.2]) → Vals (zs.map fun z => V.ref z.1) its →
    ∃ ps : List (Key × Value), KV (zs.map (·.2)) ps ∧ its.length = ps.length ∧ ∀ (j : Nat) (v : Value) (p : Key × Value), its[j]? = some v → ps[j]? = some p → ∃ a o n key, v = .ref a ∧ s.heap.get? a = some o ∧ o.cls = .type "tuple" ∧ o.data = .seq #[key, p.2] n ∧ (mixKind X.prog X.w).is p.1 key = true
  | [], _, _, .nil => ⟨[], .nil, rfl, fun j v p e _ => by simp at e⟩
  | z :: zs, v :: its, h, .cons r t => by
    obtain ⟨ps, h1, h2, h3⟩ := pairs_of I (fun y hy => h y (List.mem_cons_of_mem _ hy)) t
    cases (show v = Value.ref z.1 from r)
    obtain ⟨us, rv, ⟨o, ho, hc, n, hd⟩, _⟩ := I.tuple (h z List.mem_cons_self)
    match us, rv with
    | [key, val], .cons r1 (.cons r2 .nil) =>
      refine ⟨(z.2.1, val) :: ps, .cons ⟨rfl, r2⟩ h1, by simp [h2], fun j v p e1 e2 => ?_⟩
      cases j with
      | zero =>
        simp at e1 e2
        subst e1 e2
        exact ⟨z.1, o, n, key, rfl, ho, hc, hd, kV_is r1⟩
      | succ j => exact h3 j v p (by simpa using e1) (by simpa using e2)
/-! ### dict(xs) of a list of pairs -/
theorem mergeK_len : ∀ (l acc : List (Key × V)), (mergeK acc l).length ≤ acc.length + l.length
  | [], acc => Nat.le_refl _
  | x :: r, acc => by
    have h := mergeK_len r (putK acc x.1 x.2)
    have e : (putK acc x.1 x.2).length ≤ acc.length + 1 := by
      unfold putK
      split
      · rw [List.length_map]; omega
      · rw [List.length_append]; exact Nat.le_refl _
    show (mergeK (putK acc x.1 x.2) r).length ≤ _
    rw [List.length_cons]
    omega
theorem call_dictP (hc : X.calm = true) : CallR X (.type "dict") (fun us H Q => ∃ (p : Addr) (zs : List (Addr × Key × V)), us = [.ref p] ∧ SqL X.K H p (zs.map fun z => V.ref z.1) ∧ (∀ z ∈ zs, SqT X.K H z.1 [kV z.2.1, z.2.2]) ∧
    ∀ D, H D = none → Q (.ref D) (upd H D (.dK (mergeK [] (zs.map (·.2)))))) := by
  intro pins s σ H us vs Q I r h
  obtain ⟨p, zs, rfl, hq, ht, q⟩ := h
  obtain ⟨u, rfl, ru⟩ := vals1 r
  cases ru
  obtain ⟨its, rl, ⟨o, n, ho, hcl, hd, hdat⟩, hz⟩ := I.list hq
  have hh : X.A.in1.handled = none := I.ok.hd hc
  obtain ⟨ps, kv, hl, hT⟩ := pairs_of I ht rl
  have hl2 := rl.length
  rw [List.length_map] at hz hl2
  refine call_dict_pairs (knd := mixKind X.prog X.w) hh ho hcl hd hdat hl (by omega) hT fun h' tk dd kp => ?_
  refine ⟨.ref s.heap.objs.size, _, I.laid (a := s.heap.objs.size) (o := .dK (mergeK [] (zs.map (·.2)))) (t' := tk) kp (Nat.le_refl _) (dk_new ?_ (beq_eq_false_iff_ne.mpr (Ne.symm (Nat.ne_of_lt I.big))) (KV.merge kv .nil) dd), rfl, q _ (I.hok.fresh (Nat.le_refl _))⟩
  have := mergeK_len (zs.map (·.2)) []
  rw [List.length_map, List.length_nil] at this
  omega
/-! ### any([..]) of bools -/
theorem call_any (hc : X.calm = true) : CallR X (.builtin "any") (fun vs H Q => ∃ (p : Addr) (bs : List Bool), vs = [.ref p] ∧ SqL X.K H p (bs.map V.bl) ∧ Q (.bl (bs.any id)) H) := by
  intro pins s σ H xs us Q I r h
  obtain ⟨p, bs, rfl, hq, q⟩ := h
  obtain ⟨u, rfl, ru⟩ := vals1 r
  cases ru
  obtain ⟨its, rl, pl, hz⟩ := I.list hq
  have hh : X.A.in1.handled = none := I.ok.hd hc
  have hl := rl.length
  rw [List.length_map] at hl
  refine call_any_walk (wpAny_pyIter_list pl.isList ?_)
  have hne : p ≠ s.heap.objs.size := by
    obtain ⟨o, ho, _⟩ := pl.isList
    exact Nat.ne_of_lt (Heap.lt_size ho)
  refine ⟨s.heap.objs.size, _, _, _, _, _, fun i => bs.getD i true, rfl, Walks.list hh _ p hne its.toArray, ⟨⟨_, Heap.get?_push_size _ rfl, rfl, rfl⟩, pl.isList.at fun o e => Heap.get?_push_of_some _ e⟩, ?_, fun h' tk kp => ?_⟩
  · intro i v s' Q' E' hv hq'
    have hv' : its[i]? = some v := by simpa using hv
    have hi : i < bs.length := by rw [hl]; exact (List.getElem?_eq_some_iff.mp hv').1
    obtain ⟨u, eu, ru⟩ := rl.get (i := i) (x := .bl bs[i]) (by simp [hi])
    have : u = v := Option.some.inj (eu.symm.trans hv')
    subst this
    cases (show u = Value.bool bs[i] from ru)
    refine wpAny_truthy_bool ?_
    rw [show bs[i] = bs.getD i true by simp [hi]]
    exact hq'
  · have e : ((List.range its.toArray.size).any fun i => bs.getD i true) = bs.any id := by
      rw [List.size_toArray, ← hl]
      rw [Bool.eq_iff_iff, List.any_eq_true, List.any_eq_true]
      constructor
      · rintro ⟨i, hi, h⟩
        have hi := List.mem_range.mp hi
        exact ⟨bs[i], List.getElem_mem _, by simpa [hi] using h⟩
      · rintro ⟨x, hx, h⟩
        obtain ⟨i, hi, rfl⟩ := List.getElem_of_mem hx
        exact ⟨i, List.mem_range.mpr hi, by simpa [hi] using h⟩
    rw [e]
    refine ⟨.bl _, H, I.turns (fp := [s.heap.objs.size]) (t' := tk) (fun b hb => ?_) fun b o hb e' => kp b o hb (Heap.get?_push_of_some _ e'), rfl, q⟩
    rw [List.mem_singleton.mp hb]
    exact I.fpOk (Nat.le_refl _) (I.hok.fresh (Nat.le_refl _))
/-! ### xs.remove(y) of texts, none twice -/
theorem eraseIdx_filter {n : Str} : ∀ {ns : List Str} {j : Nat}, ns.Nodup → ns[j]? = some n → ns.eraseIdx j = ns.filter fun m => decide (m ≠ n)
  | [], j, _, h => by simp at h
  | x :: r, 0, nd, h => by
    have e : x = n := by simpa using h
    subst e
    rw [List.nodup_cons] at nd
    rw [List.eraseIdx_cons_zero, List.filter_cons, if_neg (by simp), List.filter_eq_self.mpr]
    exact fun a ha => decide_eq_true fun z => nd.1 (by rw [← z]; exact ha)
  | x :: r, j + 1, nd, h => by
    rw [List.nodup_cons] at nd
    have h' : r[j]? = some n := by simpa using h
    have ne : x ≠ n := fun z => nd.1 (by rw [z]; exact List.mem_of_getElem? h')
    rw [List.eraseIdx_cons_succ, List.filter_cons, if_pos (decide_eq_true ne), eraseIdx_filter nd.2 h']
theorem eraseIdx_map' {α β : Type} (f : α → β) : ∀ (l : List α) (j : Nat), (l.map f).eraseIdx j = (l.eraseIdx j).map f
  | [], _ => rfl
  | _ :: _, 0 => rfl
  | x :: r, j + 1 => by
    show f x :: (r.map f).eraseIdx j = f x :: (r.eraseIdx j).map f
    rw [eraseIdx_map' f r j]
def isStr (n : Str) : Value → Bool
  | .str x _ => x.cps.toList == n.cps.toList
  | _ => false
theorem Str.ext' {a b : Str} (h : a.cps.toList = b.cps.toList) : a = b := by
  cases a; cases b
  simp at h
  subst h
  rfl
theorem mt_remove : MtM X "list.remove" (fun x vs H Q => ∃ (l : Addr) (ns : List Str) (n : Str), x = .ref l ∧ vs = [.str n] ∧ H l = some (.lst (ns.map V.str)) ∧ ns.Nodup ∧ n ∈ ns ∧ Q .non (upd H l (.lst ((ns.filter fun m => decide (m ≠ n)).map V.str)))) := by
  intro pins s σ H x vs v us Q I rx rv h
  obtain ⟨l, ns, n, rfl, rfl, hH, nd, hn, q⟩ := h
  cases rx
  obtain ⟨u, rfl, ru⟩ := rv.one
  obtain ⟨t, rfl⟩ := (show ∃ t, u = Value.str n t from ru)
  obtain ⟨z, its, m, r, hl, e⟩ := I.lstM hH
  rw [List.length_map] at z hl
  obtain ⟨j, hj, ej⟩ := List.getElem_of_mem hn
  have at_ : ∀ (i : Nat) (h1 : i < ns.length) (h2 : i < its.length), ∃ t, its[i] = Value.str ns[i] t := fun i h1 h2 => by
    obtain ⟨u, eu, ru⟩ := r.get (i := i) (x := .str ns[i]) (by simp [h1])
    rw [List.getElem?_eq_getElem h2] at eu
    cases eu
    exact ru
  have hy : ∀ y, y ∈ its.toArray → MeetsSeq.EqGives y (.str n t) (isStr n y) := fun y hy => by
    obtain ⟨i, hi, rfl⟩ := List.getElem_of_mem (show y ∈ its by simpa using hy)
    obtain ⟨t', e'⟩ := at_ i (by omega) hi
    rw [e']
    exact SeqRoads2.EqGives.str _ _ _ _
  have hj2 : j < its.toArray.size := by simp; omega
  refine call_meets F.slot_list_remove ⟨_, e, rfl⟩ F.entry_list_remove (F.args_list_remove_2 _ _) (MeetsSeq.list_remove l its.toArray m (.str n t) (isStr n) hy j hj2 ?_ (fun i hi hij => ?_) (by simp; omega)) ⟨e, ?_⟩
  · obtain ⟨t', e'⟩ := at_ j hj (by omega)
    simp only [List.getElem_toArray]
    rw [e', ej]
    show (n.cps.toList == n.cps.toList) = true
    simp
  · obtain ⟨t', e'⟩ := at_ i (by omega) (by omega)
    simp only [List.getElem_toArray]
    rw [e']
    show (ns[i].cps.toList == n.cps.toList) = false
    rw [beq_eq_false_iff_ne]
    intro z
    have := Str.ext' z
    rw [← ej] at this
    exact List.pairwise_iff_getElem.mp nd i j (by omega) hj hij this
  · have r2 : Vals ((ns.map V.str).eraseIdx j) (its.eraseIdx j) := by
      have : ∀ {xs : List V} {vs : List Value} (j : Nat), Vals xs vs → Vals (xs.eraseIdx j) (vs.eraseIdx j) := by
        intro xs vs j h
        induction h generalizing j with
        | nil => exact .nil
        | cons a b ih =>
          cases j with
          | zero => exact b
          | succ j => exact .cons a (ih j)
      exact this j r
    refine ⟨.non, _, I.lset (its' := its.eraseIdx j) (ys := (ns.filter fun m => decide (m ≠ n)).map V.str) hH e (by simp [List.eraseIdxIfInBounds_toArray]) ?_ ?_, rfl, q⟩
    · rw [← eraseIdx_filter nd (by rw [List.getElem?_eq_getElem hj, ej]), ← eraseIdx_map']
      exact r2
    · rw [List.length_map]
      exact Nat.le_trans (List.length_filter_le _ _) z
/-! ### two tuples alike -/
theorem op_eqTT (hu : X.A.units < cLine) : OpR X (compareOp .Eq) (fun x y H Q => ∃ (p q : Addr) (xs : List V), x = .ref p ∧ y = .ref q ∧ SqT X.K H p xs ∧ SqT X.K H q xs ∧ xs.all flatV = true ∧ Q (.bl true) H) := by
  intro pins s σ H x y v u Q I rx ry h
  obtain ⟨p, q, xs, rfl, rfl, h1, h2, fl, hq⟩ := h
  cases rx
  cases ry
  obtain ⟨a1, v1, p1, _⟩ := I.tuple h1
  obtain ⟨a2, v2, p2, _⟩ := I.tuple h2
  have m1 := v1.length
  have m2 := v2.length
  refine SeqAt.eq_tupleAt (e := fun _ => true) (show s.heap.IsTuple _ a1.toArray from p1) (show s.heap.IsTuple _ a2.toArray from p2) hu (fun i i1 i2 => ?_) ?_
  · have i1' : i < a1.length := by simpa using i1
    have i2' : i < a2.length := by simpa using i2
    have i3 : i < xs.length := by omega
    obtain ⟨u, e1, q1⟩ := v1.get (i := i) (x := xs[i]) (by simp [i3])
    obtain ⟨v, e2, q2⟩ := v2.get (i := i) (x := xs[i]) (by simp [i3])
    have d1 : a1.toArray[i] = u := by
      have : a1[i]? = some a1[i] := by simp [i1']
      rw [this] at e1; simpa using Option.some.inj e1
    have d2 : a2.toArray[i] = v := by
      have : a2[i]? = some a2[i] := by simp [i2']
      rw [this] at e2; simpa using Option.some.inj e2
    have fl := List.all_eq_true.mp fl _ (List.getElem_mem i3)
    have := eqAt_V (A := X.A.in1) (s := s) q1 q2 fl fl
    rw [eqV_flat fl] at this
    rw [d1, d2]
    exact this
  · have et : ((List.range (min a1.toArray.size a2.toArray.size)).all (fun _ => true) && a1.toArray.size == a2.toArray.size) = true := by
      have : a1.toArray.size = a2.toArray.size := by simp; omega
      simp [this]
    rw [et]
    exact fin_bl I hq rfl
theorem op_eqLT (hu : X.A.units + 1 < cLine) : OpR X (compareOp .Eq) (rNeT X.K false) := by
  intro pins s σ H x y v u Q I rx ry h
  obtain ⟨p, q, xs, ys, rfl, rfl, h1, h2, hx, hy, e, hq⟩ := h
  cases rx
  cases ry
  obtain ⟨us, r1, p1, _⟩ := I.list h1
  obtain ⟨ws, r2, p2, _⟩ := I.list h2
  have l1 := r1.length
  have l2 := r2.length
  have l3 := congrArg List.length e
  simp only [List.length_map] at l1 l2 l3
  refine SeqAt.eq_listAt p1.isList p2.isList (by simp; omega) (Nat.lt_of_succ_lt hu) (tuples_alike (A := X.A.in1) hu I r1 r2 hx hy e) ?_
  rw [show ((List.range us.toArray.size).all fun _ => true) = true by simp]
  exact fin_bl I hq rfl
end
end L2

namespace Lk
open PySem L2
/-! ### the text by places -/
abbrev sIsWhole : Stmt := top 6
abbrev sIsName : Stmt := top 7
abbrev sCkName : Stmt := top 8
abbrev sCkWeight : Stmt := top 9
abbrev sCkSteps : Stmt := top 10
abbrev sCkRule : Stmt := top 12
abbrev sAgeings : Stmt := top 14
abbrev sAged : Stmt := top 15

/-- the built-in names that the text leaves alone -/
structure Blt (mg : Str → Option Value) : Prop where
  isi : mg "isinstance" = none
  len : mg "len" = none
  all_ : mg "all" = none
  min_ : mg "min" = none
  range : mg "range" = none
  list : mg "list" = none
  sorted : mg "sorted" = none
  enum : mg "enumerate" = none
  int : mg "int" = none
  bool : mg "bool" = none
  str : mg "str" = none

theorem kit_ii (K : PySem.W.Frag) : PySem.W.kitOne K (.type "int") (.type "int") = some true := by
  first | rfl | decide +kernel
theorem kit_ib (K : PySem.W.Frag) : PySem.W.kitOne K (.type "int") (.type "bool") = some false := by
  first | rfl | decide +kernel
theorem kit_bb (K : PySem.W.Frag) : PySem.W.kitOne K (.type "bool") (.type "bool") = some true := by
  first | rfl | decide +kernel
theorem kit_ss (K : PySem.W.Frag) : PySem.W.kitOne K (.type "str") (.type "str") = some true := by
  first | rfl | decide +kernel
theorem kit_ll (K : PySem.W.Frag) : PySem.W.kitOne K (.type "list") (.type "list") = some true := by
  first | rfl | decide +kernel

section
variable {X : Cx}
theorem pe_isi {a : Expr} {ta : TE} {T : String} {x : Str} {p p2 pos : Pos} (hm : X.mg "isinstance" = none) (hm2 : X.mg x = none) (ha : PE X a ta) (hb : bootBuiltins x = some (.type T)) (hg2 : Gl X x := by rfl) (hn2 : x ≠ "__name__" := by decide) (hd2 : (x == ("__debug__" : Str)) = false := by decide) (hg : Gl X "isinstance" := by rfl)
    (hs : starEach (a :: [.Name x p2]) X.env = (false, eval a X.env) :: starEach [.Name x p2] X.env := by rfl) (hpl : (backTo pos (starEach [.Name x p2] X.env)).any (·.1) = false := by rfl) :
    PE X (.Call (.Name "isinstance" p) [a, .Name x p2] [] pos) (tCB (rIsi X.K) (tCons ta (tCons (tC (.ty T)) tNil))) :=
  pe_callB call_isi hg hm PyProof.Rows.boot_isinstance (pa_cons ha (pa_cons (pe_bltn hg2 hm2 hb rfl hn2 hd2) pa_nil) hs) (by decide) (by decide) hs hpl
end

section
variable {P : Program} {w : World} {K : PySem.W.Frag} {mg : Str → Option Value} {base : Heap}
/-! ### is_whole_within: an int, two bounds -/
def spWhole : Sp := fun vs H Q _ => ∃ v lo hi : Int, vs = [.int v, .int lo, .int hi] ∧ Q (.bl (decide (lo ≤ v) && decide (v ≤ hi))) H
theorem scWhole : FnScope ["value", "least", "most"] ["value", "least", "most"] (defScope sIsWhole) := ⟨rfl, rfl, rfl, by decide +kernel, rfl, by decide +kernel, by decide +kernel⟩
theorem ok_whole {f : Addr} (F : FunB K "is_whole_within" "is_whole_within" sIsWhole f ["value", "least", "most"]) (B : Blt mg) : FnP P w K mg base 1 f ["value", "least", "most"] spWhole := by
  refine F.ok scWhole (fun vs H Q E h => ?_) (fun cdv A outer s H vs Q E hr h => ?_)
  · obtain ⟨v, lo, hi, rfl, _⟩ := h
    rfl
  · obtain ⟨v, lo, hi, rfl, k⟩ := h
    refine ⟨_, pss_cons (ps_if (PW.pt (pw_or (pt_val (pe_isi B.isi B.bool (pv 0) PyProof.Rows.boot_bool)) (pw_or1 (pt_not (pt_val (pe_isi B.isi B.int (pv 0) PyProof.Rows.boot_int)))))) (pss_one (ps_ret pe_bl)) pss_nil)
      (pss_one (ps_ret (pe_chain op_le op_le (pv 1) (pv 0) (pv 2)))), ?_⟩
    refine ⟨_, rfl, _, "bool", _, _, rfl, .int v, kit_ib K, _, rfl, ?_⟩
    refine iteF ?_
    refine ⟨_, rfl, _, "int", _, _, rfl, .int v, kit_ii K, _, rfl, ?_⟩
    refine iteF ?_
    refine ⟨_, rfl, _, rfl, _, _, rfl, rfl, _, rfl, ?_⟩
    refine ite2 (fun h1 => ?_) (fun h1 => ?_)
    · refine ⟨_, rfl, _, _, rfl, rfl, ?_⟩
      rw [of_decide_eq_true h1 |> fun z => decide_eq_true z, Bool.true_and] at k
      exact k
    · have h1' : decide (lo ≤ v) = false := by simpa using h1
      rw [h1', Bool.false_and] at k
      exact k

/-! ### is_name of a name -/
def GoodName (x : Str) : Prop := 1 ≤ x.length ∧ x.length ≤ 40 ∧ ∀ c ∈ x.cps.toList, 32 ≤ c ∧ c ≤ 126
def spName : Sp := fun vs H Q _ => ∃ x : Str, vs = [.str x] ∧ GoodName x ∧ ∀ H', Same H H' → Q (.bl true) H'
theorem scName : FnScope ["value"] ["value"] (defScope sIsName) := ⟨rfl, rfl, rfl, by decide +kernel, rfl, by decide +kernel, by decide +kernel⟩
theorem lt_one {a b : Nat} : ([a] < [b]) ↔ a < b := by
  rw [List.cons_lt_cons_iff]
  simp
theorem sign_lo {c : Nat} (h : 32 ≤ c) : (!decide ((⟨#[c]⟩ : Str).cps.toList < (" " : Str).cps.toList)) = true := by
  rw [show (" " : Str).cps.toList = [32] by decide, Bool.not_eq_true', decide_eq_false_iff_not]
  show ¬ ([c] < [32])
  rw [lt_one]
  omega
theorem sign_hi {c : Nat} (h : c ≤ 126) : (!decide (("~" : Str).cps.toList < (⟨#[c]⟩ : Str).cps.toList)) = true := by
  rw [show ("~" : Str).cps.toList = [126] by decide, Bool.not_eq_true', decide_eq_false_iff_not]
  show ¬ ([126] < [c])
  rw [lt_one]
  omega
theorem ok_name {f : Addr} (F : FunB K "is_name" "is_name" sIsName f ["value"]) (B : Blt mg) : FnP P w K mg base 1 f ["value"] spName := by
  refine F.ok scName (fun vs H Q E h => ?_) (fun cdv A outer s H vs Q E hr h => ?_)
  · obtain ⟨x, rfl, _⟩ := h
    rfl
  · obtain ⟨x, rfl, ⟨g1, g2, g3⟩, k⟩ := h
    refine ⟨_, pss_cons (ps_if (pt_not (pt_val (pe_isi B.isi B.str (pv 0) PyProof.Rows.boot_str))) (pss_one (ps_ret pe_bl)) pss_nil)
      (pss_one (ps_ret (pe_and (pe_chain op_le op_le pe_int (pe_callB call_len_str rfl B.len PySem.boot_len (pa_cons (pv 0) pa_nil)) pe_int)
        (pe_one (pe_callB (call_all rfl) rfl B.all_ PyProof.Rows.boot_all (pa_cons
          (pe_lc (N' := ["sign"]) (cap := [none]) rfl rfl (pi_str (pv 0)) (fun _ _ _ _ _ => pg_name (i := 0) (by decide +kernel : (["sign"] : List Str).Nodup) rfl (Or.inl rfl)) (fun _ _ _ _ _ => pts_nil)
            (fun _ _ _ _ _ => pe_chain op_le_str op_le_str pe_str (pv 0) pe_str)) pa_nil)))))), ?_⟩
    refine ⟨_, rfl, _, "str", _, _, rfl, .str x, kit_ss K, _, rfl, ?_⟩
    refine iteF ?_
    refine ⟨_, rfl, _, rfl, Nat.le_trans g2 (by decide), _, _, rfl, rfl, _, rfl, ?_⟩
    rw [decide_eq_true (show (1 : Int) ≤ (x.length : Int) by omega), if_pos rfl]
    refine ⟨_, _, rfl, rfl, _, rfl, ?_⟩
    rw [decide_eq_true (show (x.length : Int) ≤ 40 by omega), if_pos rfl]
    refine ⟨_, rfl, _, rfl, ?_⟩
    refine lc_go x.cps.size (fun i ys σ' H' => ys = List.replicate i (V.bl true) ∧ H' = H ∧ ∃ v, σ' = [v]) ⟨rfl, rfl, none, rfl⟩ (Nat.le_trans g2 (by decide)) (fun i ys σ' H' hi _ => hi) (fun _ _ _ _ => Nat.le_refl _) ?_ ?_
    · rintro i ys σ' H' v H2 hi hl ⟨rfl, rfl, w', rfl⟩ ⟨rfl, c, hc, rfl⟩
      have hm : c ∈ x.cps.toList := by
        have : x.cps[i]? = some c := hc
        exact Array.mem_toList_iff.mpr (Array.mem_of_getElem? this)
      obtain ⟨c1, c2⟩ := g3 c hm
      refine ⟨_, rfl, _, _, rfl, rfl, _, rfl, ?_⟩
      rw [sign_lo c1, if_pos rfl]
      refine ⟨_, _, rfl, rfl, ?_⟩
      rw [sign_hi c2]
      refine lcYes hi hl (Nat.le_trans g2 (by decide)) ⟨?_, rfl, _, rfl⟩
      rw [List.replicate_succ']
    · rintro ys σ' H' ⟨rfl, rfl, w', rfl⟩ p hp
      refine ⟨p, List.replicate x.cps.size true, rfl, SqL.of ?_, ?_⟩
      · rw [upd_same, List.map_replicate]
      · rw [show (List.replicate x.cps.size true).all id = true by simp]
        exact k _ (Same.upd hp)

/-! ### the checks, of what is as told -/
def spCkName : Sp := fun vs H Q _ => ∃ x : Str, vs = [.str x] ∧ GoodName x ∧ ∀ H', Same H H' → Q .non H'
theorem scCkName : FnScope ["name"] ["name"] (defScope sCkName) := ⟨rfl, rfl, rfl, by decide +kernel, rfl, by decide +kernel, by decide +kernel⟩
theorem ok_ckName {f g : Addr} (F : FunB K "check_name" "check_name" sCkName f ["name"]) (G : FnP P w K mg base 1 g ["value"] spName) (hg : mg "is_name" = some (.ref g)) : FnP P w K mg base 2 f ["name"] spCkName := by
  refine F.ok scCkName (fun vs H Q E h => ?_) (fun cdv A outer s H vs Q E hr h => ?_)
  · obtain ⟨x, rfl, _⟩ := h
    rfl
  · obtain ⟨x, rfl, g1, k⟩ := h
    refine ⟨_, pss_one (ps_if (pt_not (pt_val (pe_callP G hr hg (pa_cons (pv 0) pa_nil)))) pss_never pss_nil), ?_⟩
    refine ⟨_, rfl, x, rfl, g1, fun H' S => ⟨_, rfl, ?_⟩⟩
    exact iteF (k H' S)
theorem p30 : (10 : Int) ^ Int.toNat 30 = 1000000000000000000000000000000 := by decide
theorem p20 : (10 : Int) ^ Int.toNat 20 = 100000000000000000000 := by decide
theorem pow_ok (n : Int) (h : 0 ≤ n) (h2 : n ≤ 1000) : CPow 10 n := ⟨h, by omega, by decide⟩
def spCkWeight : Sp := fun vs H Q _ => ∃ x : Int, vs = [.int x] ∧ 1 ≤ x ∧ x ≤ 10 ^ 30 ∧ Q .non H
theorem scCkWeight : FnScope ["weight"] ["weight"] (defScope sCkWeight) := ⟨rfl, rfl, rfl, by decide +kernel, rfl, by decide +kernel, by decide +kernel⟩
theorem ok_ckWeight {f g : Addr} (F : FunB K "check_weight" "check_weight" sCkWeight f ["weight"]) (G : FnP P w K mg base 1 g ["value", "least", "most"] spWhole) (hg : mg "is_whole_within" = some (.ref g)) : FnP P w K mg base 2 f ["weight"] spCkWeight := by
  refine F.ok scCkWeight (fun vs H Q E h => ?_) (fun cdv A outer s H vs Q E hr h => ?_)
  · obtain ⟨x, rfl, _⟩ := h
    rfl
  · obtain ⟨x, rfl, g1, g2, k⟩ := h
    refine ⟨_, pss_one (ps_if (pt_not (pt_val (pe_callP G hr hg (pa_cons (pv 0) (pa_cons pe_int (pa_cons (pe_op op_pow pe_int pe_int) pa_nil)))))) pss_never pss_nil), ?_⟩
    refine ⟨_, rfl, _, _, rfl, rfl, pow_ok _ (by decide) (by decide), x, _, _, rfl, _, rfl, ?_⟩
    rw [p30, decide_eq_true (show (1 : Int) ≤ x from g1), decide_eq_true (show x ≤ 1000000000000000000000000000000 by omega)]
    exact iteF k
def spCkSteps : Sp := fun vs H Q _ => ∃ x : Int, vs = [.int x] ∧ 0 ≤ x ∧ x ≤ 10 ^ 30 ∧ Q .non H
theorem scCkSteps : FnScope ["steps"] ["steps"] (defScope sCkSteps) := ⟨rfl, rfl, rfl, by decide +kernel, rfl, by decide +kernel, by decide +kernel⟩
theorem ok_ckSteps {f g : Addr} (F : FunB K "check_steps" "check_steps" sCkSteps f ["steps"]) (G : FnP P w K mg base 1 g ["value", "least", "most"] spWhole) (hg : mg "is_whole_within" = some (.ref g)) : FnP P w K mg base 2 f ["steps"] spCkSteps := by
  refine F.ok scCkSteps (fun vs H Q E h => ?_) (fun cdv A outer s H vs Q E hr h => ?_)
  · obtain ⟨x, rfl, _⟩ := h
    rfl
  · obtain ⟨x, rfl, g1, g2, k⟩ := h
    refine ⟨_, pss_one (ps_if (pt_not (pt_val (pe_callP G hr hg (pa_cons (pv 0) (pa_cons pe_int (pa_cons (pe_op op_pow pe_int pe_int) pa_nil)))))) pss_never pss_nil), ?_⟩
    refine ⟨_, rfl, _, _, rfl, rfl, pow_ok _ (by decide) (by decide), x, _, _, rfl, _, rfl, ?_⟩
    rw [p30, decide_eq_true (show (0 : Int) ≤ x from g1), decide_eq_true (show x ≤ 1000000000000000000000000000000 by omega)]
    exact iteF k
def spCkRule : Sp := fun vs H Q _ => ∃ x y : Int, vs = [.int x, .int y] ∧ 1 ≤ x ∧ x ≤ 10 ^ 20 ∧ 2 ≤ y ∧ y ≤ 10 ^ 30 ∧ Q .non H
theorem scCkRule : FnScope ["span", "part"] ["span", "part"] (defScope sCkRule) := ⟨rfl, rfl, rfl, by decide +kernel, rfl, by decide +kernel, by decide +kernel⟩
theorem ok_ckRule {f g : Addr} (F : FunB K "check_rule" "check_rule" sCkRule f ["span", "part"]) (G : FnP P w K mg base 1 g ["value", "least", "most"] spWhole) (hg : mg "is_whole_within" = some (.ref g)) : FnP P w K mg base 2 f ["span", "part"] spCkRule := by
  refine F.ok scCkRule (fun vs H Q E h => ?_) (fun cdv A outer s H vs Q E hr h => ?_)
  · obtain ⟨x, y, rfl, _⟩ := h
    rfl
  · obtain ⟨x, y, rfl, g1, g2, g3, g4, k⟩ := h
    refine ⟨_, pss_cons (ps_if (pt_not (pt_val (pe_callP G hr hg (pa_cons (pv 0) (pa_cons pe_int (pa_cons (pe_op op_pow pe_int pe_int) pa_nil)))))) pss_never pss_nil)
      (pss_one (ps_if (pt_not (pt_val (pe_callP G hr hg (pa_cons (pv 1) (pa_cons pe_int (pa_cons (pe_op op_pow pe_int pe_int) pa_nil)))))) pss_never pss_nil)), ?_⟩
    refine ⟨_, rfl, _, _, rfl, rfl, pow_ok _ (by decide) (by decide), x, _, _, rfl, _, rfl, ?_⟩
    rw [p20, decide_eq_true (show (1 : Int) ≤ x from g1), decide_eq_true (show x ≤ 100000000000000000000 by omega)]
    refine iteF ?_
    refine ⟨_, rfl, _, _, rfl, rfl, pow_ok _ (by decide) (by decide), y, _, _, rfl, _, rfl, ?_⟩
    rw [p30, decide_eq_true (show (2 : Int) ≤ y from g3), decide_eq_true (show y ≤ 1000000000000000000000000000000 by omega)]
    exact iteF k

/-! ### rules: the number of ageings, a count aged -/
def spAgeings : Sp := fun vs H Q _ => ∃ a b c : Int, vs = [.int a, .int b, .int c] ∧ 1 ≤ a ∧ a ≤ 10 ^ 20 ∧ Q (.int (c / a - b / a)) H
theorem scAgeings : FnScope ["span", "since", "upto"] ["span", "since", "upto"] (defScope sAgeings) := ⟨rfl, rfl, rfl, by decide +kernel, rfl, by decide +kernel, by decide +kernel⟩
theorem div_ok {a : Int} (h : 1 ≤ a) (h2 : a ≤ 10 ^ 30) : CDivB b a := ⟨by omega, by omega⟩
theorem ok_ageings {f : Addr} (F : FunB K "ageings" "ageings" sAgeings f ["span", "since", "upto"]) : FnP P w K mg base 1 f ["span", "since", "upto"] spAgeings := by
  refine F.ok scAgeings (fun vs H Q E h => ?_) (fun cdv A outer s H vs Q E hr h => ?_)
  · obtain ⟨a, b, c, rfl, _⟩ := h
    rfl
  · obtain ⟨a, b, c, rfl, g1, g2, k⟩ := h
    refine ⟨_, pss_one (ps_ret (pe_op op_sub (pe_op op_fdivB (pv 2) (pv 0)) (pe_op op_fdivB (pv 1) (pv 0)))), ?_⟩
    exact ⟨_, rfl, _, rfl, _, _, rfl, rfl, div_ok g1 (by omega), _, rfl, _, rfl, _, _, rfl, rfl, div_ok g1 (by omega), _, _, rfl, rfl, k⟩

/-- c aged t times by p -/
def agedI (c p t : Int) : Int := ((c.toNat / p.toNat ^ t.toNat : Nat) : Int)
theorem agedI_zero {c p : Int} (h : 0 ≤ c) : agedI c p 0 = c := by
  unfold agedI
  rw [show (0 : Int).toNat = 0 from rfl, Nat.pow_zero, Nat.div_one]
  omega
theorem agedI_nn (c p t : Int) : 0 ≤ agedI c p t := Int.natCast_nonneg _
theorem agedI_le {c p t : Int} (h : 0 ≤ c) : agedI c p t ≤ c := by
  unfold agedI
  have := Nat.div_le_self c.toNat (p.toNat ^ t.toNat)
  omega
theorem agedI_step {c p : Int} (n : Nat) (hp : 0 ≤ p) : agedI c p n / p = agedI c p (n + 1) := by
  unfold agedI
  rw [show ((n : Int) + 1).toNat = n + 1 by omega, show (n : Int).toNat = n by omega, Nat.pow_succ, ← Nat.div_div_eq_div_mul]
  obtain ⟨q, rfl⟩ := Int.eq_ofNat_of_zero_le hp
  rw [Int.toNat_natCast]
  norm_cast
theorem agedI_big {c p t : Int} {n : Nat} (hp : 2 ≤ p) (hb : c.natAbs < 2 ^ n) (h0 : 0 ≤ c) (ht : (n : Int) ≤ t) : agedI c p t = 0 := by
  unfold agedI
  have h1 : (2 : Nat) ^ n ≤ p.toNat ^ n := Nat.pow_le_pow_left (by omega) n
  have h2 : p.toNat ^ n ≤ p.toNat ^ t.toNat := Nat.pow_le_pow_right (by omega) (by omega)
  have h3 : c.toNat < p.toNat ^ t.toNat := by omega
  rw [Nat.div_eq_of_lt h3]
  rfl
theorem bits_lt (c : Int) : c.natAbs < 2 ^ Builtin.Int.intBits c := PySem.intBits_le_iff.mp (Nat.le_refl _)
theorem bits_le {c : Int} (h : 0 ≤ c) (h2 : c ≤ 10 ^ 60) : Builtin.Int.intBits c ≤ 400 := by
  refine PySem.intBits_le_iff.mpr ?_
  have e : c.natAbs ≤ 10 ^ 60 := by omega
  exact Nat.lt_of_le_of_lt e (by decide +kernel)
def spAged : Sp := fun vs H Q _ => ∃ c p t : Int, vs = [.int c, .int p, .int t] ∧ 0 ≤ c ∧ c ≤ 10 ^ 60 ∧ 2 ≤ p ∧ p ≤ 10 ^ 30 ∧ 0 ≤ t ∧ Q (.int (agedI c p t)) H
theorem scAged : FnScope ["count", "part", "times", "needed", "step"] ["count", "part", "times"] (defScope sAged) := ⟨rfl, rfl, rfl, by decide +kernel, rfl, by decide +kernel, by decide +kernel⟩

theorem ok_aged {f : Addr} (F : FunB K "aged" "aged" sAged f ["count", "part", "times"]) (B : Blt mg) : FnP P w K mg base 1 f ["count", "part", "times"] spAged := by
  refine F.ok scAged (fun vs H Q E h => ?_) (fun cdv A outer s H vs Q E hr h => ?_)
  · obtain ⟨c, p, t, rfl, _⟩ := h
    rfl
  · obtain ⟨c, p, t, rfl, g1, g2, g3, g4, g5, k⟩ := h
    refine ⟨_, pss_cons (ps_set (i := 3) scAged.nd rfl (Or.inl rfl) (pe_callB (call_min2 rfl) rfl B.min_ PyProof.Rows.boot_min (pa_cons (pv 2) (pa_cons (pe_bm0 PySem.F.plainAttrs_int PySem.F.slot_int_bit_length PySem.F.type_int_bit_length mt_bits (pv 0)) pa_nil))))
      (pss_cons (ps_for PassesOwn.never rfl (pi_range1 rfl B.range (pa_cons (pv 3) pa_nil)) (pg_name (i := 4) scAged.nd rfl (Or.inl rfl)) (pss_one (ps_set (i := 0) scAged.nd rfl (Or.inl rfl) (pe_op op_fdivB (pv 0) (pv 1)))))
      (pss_one (ps_ret (pv 0)))), ?_⟩
    have hb := bits_le g1 g2
    have hb2 := bits_lt c
    refine ⟨_, rfl, _, rfl, rfl, _, rfl, rfl, _, _, rfl, ?_⟩
    refine ⟨_, rfl, _, rfl, by split <;> omega, by split <;> omega, ?_⟩
    generalize hn : (if (Builtin.Int.intBits c : Int) < t then (Builtin.Int.intBits c : Int) else t) = n
    refine for_range (Pv := fun i σ H' => ∃ z, σ = [some (.int (agedI c p i)), some (.int p), some (.int t), some (.int n), z] ∧ H' = H) ⟨none, ?_, rfl⟩ ?_ ?_
    · rw [show ((0 : Nat) : Int) = 0 from rfl, agedI_zero g1]; rfl
    · rintro i σ H' hi ⟨z, rfl, rfl⟩
      refine ⟨_, rfl, _, rfl, _, _, rfl, rfl, div_ok (by omega) g4, some (.int (0 + i)), ?_, rfl⟩
      show [some (V.int (agedI c p i / p)), some (V.int p), some (V.int t), some (V.int n), some (V.int (0 + i))] = _
      rw [agedI_step i (by omega)]
      rfl
    · rintro σ H' ⟨z, rfl, rfl⟩
      refine ⟨_, rfl, ?_⟩
      have e : agedI c p (n.toNat : Nat) = agedI c p t := by
        by_cases hlt : (Builtin.Int.intBits c : Int) < t
        · rw [if_pos hlt] at hn
          rw [← hn, agedI_big (n := Builtin.Int.intBits c) g3 hb2 g1 (by omega), agedI_big (n := Builtin.Int.intBits c) g3 hb2 g1 (by omega)]
        · rw [if_neg hlt] at hn
          rw [← hn, show ((t.toNat : Nat) : Int) = t by omega]
      show Q (.int (agedI c p (n.toNat : Nat))) _
      rw [e]
      exact k
end
end Lk

namespace Lk
open PySem L2
abbrev sBook : Stmt := top 17
abbrev sInit : Stmt := inClass sBook 0
abbrev sRest : Stmt := inClass sBook 2
abbrev sTimeNow : Stmt := inClass sBook 4
abbrev sDeedsDone : Stmt := inClass sBook 5
abbrev sCountOf : Stmt := inClass sBook 6
abbrev sLastOf : Stmt := inClass sBook 7
abbrev sInOrder : Stmt := inClass sBook 9
abbrev sStrength : Stmt := inClass sBook 10
abbrev sBeginAsk : Stmt := inClass sBook 11
abbrev sGrow : Stmt := inClass sBook 12
abbrev sBeginDrop : Stmt := inClass sBook 13
abbrev sPassTime : Stmt := inClass sBook 14
abbrev sAgeCounts : Stmt := inClass sBook 15

/-! ### the state of a book: the names with a count above 0, each with its count and its last asking -/
structure BS where
  span : Int
  part : Int
  time : Int
  deeds : Int
  ents : List (Str × Int × Int)
def tabK (mk : Str × Int × Int → V) (es : List (Str × Int × Int)) : List (Key × V) := es.map fun e => (Sum.inr e.1, mk e)
abbrev mC : Str × Int × Int → V := fun e => .int e.2.1
abbrev mL : Str × Int × Int → V := fun e => .int e.2.2
abbrev namesOf (es : List (Str × Int × Int)) : List Str := es.map (·.1)
def findE (es : List (Str × Int × Int)) (n : Str) : Option (Str × Int × Int) := es.find? fun e => decide (e.1 = n)

theorem tabK_append (mk : Str × Int × Int → V) (a b : List (Str × Int × Int)) : tabK mk (a ++ b) = tabK mk a ++ tabK mk b := by unfold tabK; rw [List.map_append]
theorem tabK_length (mk : Str × Int × Int → V) (a : List (Str × Int × Int)) : (tabK mk a).length = a.length := by unfold tabK; rw [List.length_map]
theorem valV_tab (mk : Str × Int × Int → V) (n : Str) : ∀ es, valV (tabK mk es) (Sum.inr n : Key) = (findE es n).map mk
  | [] => rfl
  | e :: r => by
    by_cases h : e.1 = n
    · have h1 : findE (e :: r) n = some e := by unfold findE; rw [List.find?_cons, decide_eq_true h]
      rw [h1]
      exact valV_pos (p := (Sum.inr e.1, mk e)) (congrArg Sum.inr h)
    · have h1 : findE (e :: r) n = findE r n := by unfold findE; rw [List.find?_cons, decide_eq_false h]
      rw [h1, ← valV_tab mk n r]
      exact valV_neg (p := (Sum.inr e.1, mk e)) (fun z => h (Sum.inr.inj z))
theorem findE_none {es : List (Str × Int × Int)} {n : Str} (h : n ∉ namesOf es) : findE es n = none := by
  unfold findE
  rw [List.find?_eq_none]
  intro e he
  simp only [decide_eq_true_eq]
  intro z
  exact h (List.mem_map.mpr ⟨e, he, z⟩)
theorem findE_mid {a b : List (Str × Int × Int)} {e : Str × Int × Int} (h : e.1 ∉ namesOf a) : findE (a ++ e :: b) e.1 = some e := by
  unfold findE
  rw [List.find?_append]
  have : (a.find? fun x => decide (x.1 = e.1)) = none := findE_none h
  rw [this, List.find?_cons, decide_eq_true rfl]
  rfl
theorem findE_some {es : List (Str × Int × Int)} {n : Str} {e : Str × Int × Int} (h : findE es n = some e) : e.1 = n ∧ ∃ a b, es = a ++ e :: b ∧ n ∉ namesOf a := by
  induction es with
  | nil => cases h
  | cons x r ih =>
    by_cases hx : x.1 = n
    · have h1 : findE (x :: r) n = some x := by unfold findE; rw [List.find?_cons, decide_eq_true hx]
      rw [h1] at h
      cases h
      exact ⟨hx, [], r, rfl, by simp⟩
    · have h1 : findE (x :: r) n = findE r n := by unfold findE; rw [List.find?_cons, decide_eq_false hx]
      rw [h1] at h
      obtain ⟨h2, a, b, h3, h4⟩ := ih h
      refine ⟨h2, x :: a, b, by rw [h3]; rfl, ?_⟩
      intro z
      rcases List.mem_cons.mp z with z | z
      · exact hx z.symm
      · exact h4 z
theorem findE_mem {es : List (Str × Int × Int)} {n : Str} {e : Str × Int × Int} (h : findE es n = some e) : e ∈ es := by
  obtain ⟨_, a, b, rfl, _⟩ := findE_some h
  exact List.mem_append_right _ List.mem_cons_self
theorem findE_isNone {es : List (Str × Int × Int)} {n : Str} (h : findE es n = none) : n ∉ namesOf es := by
  intro hm
  obtain ⟨e, he, rfl⟩ := List.mem_map.mp hm
  unfold findE at h
  rw [List.find?_eq_none] at h
  exact h e he (decide_eq_true rfl)

theorem map_other {mk : Str × Int × Int → V} {n : Str} {v : V} : ∀ {a : List (Str × Int × Int)}, n ∉ namesOf a → ((tabK mk a).map fun kv => if kv.1 = (Sum.inr n : Key) then (kv.1, v) else kv) = tabK mk a
  | [], _ => rfl
  | e :: r, h => by
    have h1 : ¬ e.1 = n := fun z => h (by rw [← z]; exact List.mem_cons_self)
    show (if (Sum.inr e.1 : Key) = Sum.inr n then _ else (Sum.inr e.1, mk e)) :: ((tabK mk r).map _) = (Sum.inr e.1, mk e) :: tabK mk r
    rw [if_neg fun z => h1 (Sum.inr.inj z), map_other fun z => h (List.mem_cons_of_mem _ z)]
theorem filter_other {mk : Str × Int × Int → V} {n : Str} : ∀ {a : List (Str × Int × Int)}, n ∉ namesOf a → dropK (tabK mk a) (Sum.inr n : Key) = tabK mk a
  | [], _ => rfl
  | e :: r, h => by
    have h1 : ¬ e.1 = n := fun z => h (by rw [← z]; exact List.mem_cons_self)
    show dropK ((Sum.inr e.1, mk e) :: tabK mk r) _ = (Sum.inr e.1, mk e) :: tabK mk r
    rw [dropK_neg fun z => h1 (Sum.inr.inj z), filter_other fun z => h (List.mem_cons_of_mem _ z)]
/-- the entry of e in its place gets v -/
theorem putK_mid {mk : Str × Int × Int → V} {a b : List (Str × Int × Int)} {e : Str × Int × Int} {v : V} (ha : e.1 ∉ namesOf a) (hb : e.1 ∉ namesOf b) :
    putK (tabK mk (a ++ e :: b)) (Sum.inr e.1 : Key) v = tabK mk a ++ (Sum.inr e.1, v) :: tabK mk b := by
  have hany : ((tabK mk (a ++ e :: b)).any fun kv => decide (kv.1 = (Sum.inr e.1 : Key))) = true := by
    rw [valV_any, valV_tab, findE_mid ha]; rfl
  unfold putK
  rw [if_pos hany, tabK_append, List.map_append, map_other ha]
  show _ ++ (if (Sum.inr e.1 : Key) = Sum.inr e.1 then _ else _) :: ((tabK mk b).map _) = _
  rw [if_pos rfl, map_other hb]
theorem dropK_mid {mk : Str × Int × Int → V} {a b : List (Str × Int × Int)} {e : Str × Int × Int} (ha : e.1 ∉ namesOf a) (hb : e.1 ∉ namesOf b) :
    dropK (tabK mk (a ++ e :: b)) (Sum.inr e.1 : Key) = tabK mk (a ++ b) := by
  have h1 := filter_other (mk := mk) ha
  have h2 := filter_other (mk := mk) hb
  rw [tabK_append, tabK_append]
  unfold dropK at h1 h2 ⊢
  rw [List.filter_append, h1]
  show _ ++ List.filter _ ((Sum.inr e.1, mk e) :: tabK mk b) = _
  rw [List.filter_cons, if_neg (by simp), h2]

def fldsB (S : BS) (dc dl : Addr) (ex : List (Str × V)) : List (Str × V) :=
  ("span", .int S.span) :: ("part", .int S.part) :: ("time", .int S.time) :: ("deeds", .int S.deeds) :: ("counts", .ref dc) :: ("lasts", .ref dl) :: ex
section
variable {S : BS} {dc dl : Addr} {ex : List (Str × V)}
theorem f_span : (fldsB S dc dl ex).lookup ("span" : Str) = some (.int S.span) := rfl
theorem f_part : (fldsB S dc dl ex).lookup ("part" : Str) = some (.int S.part) := rfl
theorem f_time : (fldsB S dc dl ex).lookup ("time" : Str) = some (.int S.time) := rfl
theorem f_deeds : (fldsB S dc dl ex).lookup ("deeds" : Str) = some (.int S.deeds) := rfl
theorem f_counts : (fldsB S dc dl ex).lookup ("counts" : Str) = some (.ref dc) := rfl
theorem f_lasts : (fldsB S dc dl ex).lookup ("lasts" : Str) = some (.ref dl) := rfl
theorem f_no {m : Str} (h : m ∉ (["span", "part", "time", "deeds", "counts", "lasts"] : List Str)) (h2 : ex.lookup m = none) : (fldsB S dc dl ex).lookup m = none := by
  unfold fldsB
  simp only [List.mem_cons, not_or] at h
  obtain ⟨h1, h3, h4, h5, h6, h7, _⟩ := h
  simp only [List.lookup_cons, beq_eq_false_iff_ne.mpr h1, beq_eq_false_iff_ne.mpr h3, beq_eq_false_iff_ne.mpr h4, beq_eq_false_iff_ne.mpr h5, beq_eq_false_iff_ne.mpr h6, beq_eq_false_iff_ne.mpr h7]
  exact h2
theorem f_setTime (y : Int) : putF "time" (.int y) (fldsB S dc dl ex) = fldsB { S with time := y } dc dl ex := rfl
theorem f_setDeeds (y : Int) : putF "deeds" (.int y) (fldsB S dc dl ex) = fldsB { S with deeds := y } dc dl ex := rfl
theorem f_len (h : ex.length ≤ 100) : (fldsB S dc dl ex).length < 1000 := by
  unfold fldsB
  simp only [List.length_cons]
  omega
end
end Lk

namespace Lk
open PySem L2

/-! ### an object with all that a book has: where it stands, and what else it has -/
structure Kd (τ : Type) where
  C : Addr
  p : Addr
  dc : Addr
  dl : Addr
  ex : τ → List (Str × V)
  on : τ → Hp → Prop
  own : Addr → Prop
abbrev exNames : List Str := ["places", "standing", "gone", "line", "met_at"]
structure KdOk {τ : Type} (κ : Kd τ) : Prop where
  op : κ.own κ.p
  oc : κ.own κ.dc
  ol : κ.own κ.dl
  ne : κ.dc ≠ κ.dl
  exl : ∀ t, (κ.ex t).length ≤ 100
  exn : ∀ t m, m ∉ exNames → (κ.ex t).lookup m = none
  fr : ∀ t H H', κ.on t H → (∀ b o, H b = some o → κ.own b → b ≠ κ.p → b ≠ κ.dc → b ≠ κ.dl → H' b = some o) → (∀ b xs, H b = some (.tup xs) → H' b = some (.tup xs)) → κ.on t H'
structure BookAt {τ : Type} (κ : Kd τ) (S : BS) (t : τ) (H : Hp) : Prop where
  ob : ∃ dx, H κ.p = some (.ins κ.C dx (fldsB S κ.dc κ.dl (κ.ex t)))
  cn : H κ.dc = some (.dK (tabK mC S.ents))
  ls : H κ.dl = some (.dK (tabK mL S.ents))
  ex : κ.on t H
  al : ∀ b, κ.own b → ∃ o, H b = some o ∧ ∀ xs, o ≠ .tup xs
/-- nothing but the object's own is touched -/
def Fr {τ : Type} (κ : Kd τ) (H H' : Hp) : Prop := ∀ b o, H b = some o → ¬ κ.own b → H' b = some o
section
variable {τ : Type} {κ : Kd τ} {S : BS} {t : τ} {H H' H'' : Hp}
theorem Fr.refl : Fr κ H H := fun _ _ e _ => e
theorem Fr.trans (a : Fr κ H H') (b : Fr κ H' H'') : Fr κ H H'' := fun c o e n => b c o (a c o e n) n
theorem Fr.of_same (a : Same H H') : Fr κ H H' := fun c o e _ => a c o e
theorem KdOk.onU (O : KdOk κ) {c : Addr} {o u : HO} (h : κ.on t H) (hc : c = κ.p ∨ c = κ.dc ∨ c = κ.dl ∨ ¬ κ.own c) (e : H c = some u) (hu : ∀ xs, u ≠ .tup xs) : κ.on t (upd H c o) :=
  O.fr t H _ h (fun b v q ob h1 h2 h3 => by
    rw [upd_ne]
    · exact q
    · intro z
      subst z
      rcases hc with z | z | z | z
      · exact h1 z
      · exact h2 z
      · exact h3 z
      · exact z ob) fun b xs q => by
    rw [upd_ne (fun z => by rw [z, e] at q; exact hu xs (Option.some.inj q))]; exact q
theorem BookAt.same (B : BookAt κ S t H) (O : KdOk κ) (h : Same H H') : BookAt κ S t H' := by
  obtain ⟨⟨dx, h1⟩, h2, h3, h4, h5⟩ := B
  exact ⟨⟨dx, h _ _ h1⟩, h _ _ h2, h _ _ h3, O.fr t H H' h4 (fun b o e _ _ _ _ => h b o e) (fun b xs e => h b _ e), fun b hb => let ⟨o, e, n⟩ := h5 b hb; ⟨o, h _ _ e, n⟩⟩
theorem al_upd {own : Addr → Prop} {H : Hp} {c : Addr} {o : HO} (h : ∀ b, own b → ∃ o, H b = some o ∧ ∀ xs, o ≠ .tup xs) (ho : ∀ xs, o ≠ .tup xs) : ∀ b, own b → ∃ u, upd H c o b = some u ∧ ∀ xs, u ≠ .tup xs := fun b hb => by
  by_cases e : b = c
  · exact ⟨o, by rw [e, upd_same], ho⟩
  · obtain ⟨u, h1, h2⟩ := h b hb
    exact ⟨u, by rw [upd_ne e]; exact h1, h2⟩
theorem BookAt.noTup (B : BookAt κ S t H) {l : Addr} {xs : List V} (h : H l = some (.tup xs)) : ¬ κ.own l := fun z => by
  obtain ⟨o, e, n⟩ := B.al l z
  rw [h] at e
  exact n xs (Option.some.inj e).symm
theorem BookAt.new (B : BookAt κ S t H) {l : Addr} (h : H l = none) : ¬ κ.own l := fun z => by
  obtain ⟨o, e, _⟩ := B.al l z
  rw [h] at e; cases e
theorem BookAt.pc (B : BookAt κ S t H) : κ.p ≠ κ.dc := by
  obtain ⟨⟨dx, h1⟩, h2, _⟩ := B
  exact ne_of h1 h2 (by intro z; cases z)
theorem BookAt.pl (B : BookAt κ S t H) : κ.p ≠ κ.dl := by
  obtain ⟨⟨dx, h1⟩, _, h3, _⟩ := B
  exact ne_of h1 h3 (by intro z; cases z)
theorem BookAt.fno (B : BookAt κ S t H) (O : KdOk κ) {m : Str} (h : m ∉ (["span", "part", "time", "deeds", "counts", "lasts"] : List Str)) (h2 : m ∉ exNames) : (fldsB S κ.dc κ.dl (κ.ex t)).lookup m = none := f_no h (O.exn t m h2)
/-- a field of the object is stored -/
theorem BookAt.setOb (B : BookAt κ S t H) (O : KdOk κ) {dx : Addr} {S' : BS} (e : S'.ents = S.ents) : BookAt κ S' t (upd H κ.p (.ins κ.C dx (fldsB S' κ.dc κ.dl (κ.ex t)))) := by
  refine ⟨⟨dx, upd_same⟩, ?_, ?_, O.onU B.ex (.inl rfl) B.ob.choose_spec (by intro xs z; cases z), al_upd B.al (by intro xs z; cases z)⟩
  · rw [upd_ne B.pc.symm, e]; exact B.cn
  · rw [upd_ne B.pl.symm, e]; exact B.ls
theorem Fr.upd (O : KdOk κ) {b : Addr} (hb : κ.own b) {o : HO} : Fr κ H (upd H b o) := fun c u e n => by rw [upd_ne (fun z => n (by rw [z]; exact hb))]; exact e
end

/-- what the top must have of the class at C -/
structure BTxt (K : PySem.W.Frag) (C : Addr) : Prop where
  cl : Cls K C
  n1 : NoAttr K C "span"
  n2 : NoAttr K C "part"
  n3 : NoAttr K C "time"
  n4 : NoAttr K C "deeds"
  n5 : NoAttr K C "counts"
  n6 : NoAttr K C "lasts"

section
variable {P : Program} {w : World} {K : PySem.W.Frag} {mg : Str → Option Value} {base : Heap} {τ : Type} {C : Addr}
/-- the objects of a class: which of them are meant -/
structure Objs (τ : Type) (C : Addr) where
  is : Kd τ → Prop
  ok : ∀ κ, is κ → KdOk κ
  cls : ∀ κ, is κ → κ.C = C
variable (𝒪 : Objs τ C)

/-! ### time_now, deeds_done, count_of, last_of -/
def spTime : Sp := fun vs H Q _ => ∃ κ S t, 𝒪.is κ ∧ vs = [.ref κ.p] ∧ BookAt κ S t H ∧ Q (.int S.time) H
theorem scTime : FnScope ["self"] ["self"] (defScope sTimeNow) := ⟨rfl, rfl, rfl, by decide +kernel, rfl, by decide +kernel, by decide +kernel⟩
theorem ok_time {f : Addr} (F : FunB K "time_now" "Book.time_now" sTimeNow f ["self"]) (T : BTxt K C) : FnP P w K mg base 1 f ["self"] (spTime 𝒪) := by
  refine F.ok scTime (fun vs H Q E h => ?_) (fun cdv A outer s H vs Q E hr h => ?_)
  · obtain ⟨κ, S, t, _, rfl, _⟩ := h
    rfl
  · obtain ⟨κ, S, t, hκ, rfl, B, k⟩ := h
    obtain ⟨dx, h1⟩ := B.ob
    have hC := 𝒪.cls κ hκ
    refine ⟨_, pss_one (ps_ret (pe_fld (pv 0) rfl)), ?_⟩
    exact ⟨_, rfl, κ.p, κ.C, dx, _, _, rfl, h1, hC ▸ T.cl, hC ▸ T.n3, f_time, k⟩
def spDeeds : Sp := fun vs H Q _ => ∃ κ S t, 𝒪.is κ ∧ vs = [.ref κ.p] ∧ BookAt κ S t H ∧ Q (.int S.deeds) H
theorem scDeeds : FnScope ["self"] ["self"] (defScope sDeedsDone) := ⟨rfl, rfl, rfl, by decide +kernel, rfl, by decide +kernel, by decide +kernel⟩
theorem ok_deeds {f : Addr} (F : FunB K "deeds_done" "Book.deeds_done" sDeedsDone f ["self"]) (T : BTxt K C) : FnP P w K mg base 1 f ["self"] (spDeeds 𝒪) := by
  refine F.ok scDeeds (fun vs H Q E h => ?_) (fun cdv A outer s H vs Q E hr h => ?_)
  · obtain ⟨κ, S, t, _, rfl, _⟩ := h
    rfl
  · obtain ⟨κ, S, t, hκ, rfl, B, k⟩ := h
    obtain ⟨dx, h1⟩ := B.ob
    have hC := 𝒪.cls κ hκ
    refine ⟨_, pss_one (ps_ret (pe_fld (pv 0) rfl)), ?_⟩
    exact ⟨_, rfl, κ.p, κ.C, dx, _, _, rfl, h1, hC ▸ T.cl, hC ▸ T.n4, f_deeds, k⟩
/-- the count, the last asking of a name -/
def cntE (S : BS) (n : Str) : Int := ((findE S.ents n).map (·.2.1)).getD 0
def lstE (S : BS) (n : Str) : Option Int := (findE S.ents n).map (·.2.2)
def optV : Option Int → V
  | some i => .int i
  | none => .non
def spCountOf : Sp := fun vs H Q _ => ∃ κ S t n, 𝒪.is κ ∧ vs = [.ref κ.p, .str n] ∧ GoodName n ∧ BookAt κ S t H ∧ ∀ H', Same H H' → Q (.int (cntE S n)) H'
theorem scCountOf : FnScope ["self", "name"] ["self", "name"] (defScope sCountOf) := ⟨rfl, rfl, rfl, by decide +kernel, rfl, by decide +kernel, by decide +kernel⟩
theorem ok_countOf {f g : Addr} (F : FunB K "count_of" "Book.count_of" sCountOf f ["self", "name"]) (T : BTxt K C) (G : FnP P w K mg base 2 g ["name"] spCkName) (hg : mg "check_name" = some (.ref g)) : FnP P w K mg base 4 f ["self", "name"] (spCountOf 𝒪) := by
  refine F.ok scCountOf (fun vs H Q E h => ?_) (fun cdv A outer s H vs Q E hr h => ?_)
  · obtain ⟨κ, S, t, n, _, rfl, _⟩ := h
    rfl
  · obtain ⟨κ, S, t, n, hκ, rfl, gn, B, k⟩ := h
    have hC := 𝒪.cls κ hκ
    refine ⟨_, pss_cons (ps_expr (pe_callP G (hr.mono (by decide)) hg (pa_cons (pv 1) pa_nil))) (pss_one (ps_ret (pe_dget2 (hu_of hr) (pe_fld (pv 0) rfl) (pv 1) pe_int ⟨rfl, rfl, rfl, rfl⟩))), ?_⟩
    refine ⟨_, rfl, n, rfl, gn, fun H' S' => ?_⟩
    have B' := B.same (𝒪.ok κ hκ) S'
    obtain ⟨dx, h1⟩ := B'.ob
    refine ⟨_, rfl, κ.p, κ.C, dx, _, _, rfl, h1, hC ▸ T.cl, hC ▸ T.n5, f_counts, κ.dc, rfl, .inl ⟨_, .inl B'.cn⟩, _, rfl, _, DGet.k (k := Sum.inr n) B'.cn, ?_⟩
    have e : (valV (tabK mC S.ents) (Sum.inr n : Key)).getD (.int 0) = .int (cntE S n) := by
      rw [valV_tab]
      unfold cntE
      cases findE S.ents n <;> rfl
    show Q ((valV (tabK mC S.ents) (Sum.inr n : Key)).getD (.int 0)) H'
    rw [e]
    exact k H' S'
def spLastOf : Sp := fun vs H Q _ => ∃ κ S t n, 𝒪.is κ ∧ vs = [.ref κ.p, .str n] ∧ GoodName n ∧ BookAt κ S t H ∧ ∀ H', Same H H' → Q (optV (lstE S n)) H'
theorem scLastOf : FnScope ["self", "name"] ["self", "name"] (defScope sLastOf) := ⟨rfl, rfl, rfl, by decide +kernel, rfl, by decide +kernel, by decide +kernel⟩
theorem ok_lastOf {f g : Addr} (F : FunB K "last_of" "Book.last_of" sLastOf f ["self", "name"]) (T : BTxt K C) (G : FnP P w K mg base 2 g ["name"] spCkName) (hg : mg "check_name" = some (.ref g)) : FnP P w K mg base 4 f ["self", "name"] (spLastOf 𝒪) := by
  refine F.ok scLastOf (fun vs H Q E h => ?_) (fun cdv A outer s H vs Q E hr h => ?_)
  · obtain ⟨κ, S, t, n, _, rfl, _⟩ := h
    rfl
  · obtain ⟨κ, S, t, n, hκ, rfl, gn, B, k⟩ := h
    have hC := 𝒪.cls κ hκ
    refine ⟨_, pss_cons (ps_expr (pe_callP G (hr.mono (by decide)) hg (pa_cons (pv 1) pa_nil))) (pss_one (ps_ret (pe_dget1 (hu_of hr) (pe_fld (pv 0) rfl) (pv 1) ⟨rfl, rfl, rfl, rfl⟩))), ?_⟩
    refine ⟨_, rfl, n, rfl, gn, fun H' S' => ?_⟩
    have B' := B.same (𝒪.ok κ hκ) S'
    obtain ⟨dx, h1⟩ := B'.ob
    refine ⟨_, rfl, κ.p, κ.C, dx, _, _, rfl, h1, hC ▸ T.cl, hC ▸ T.n6, f_lasts, κ.dl, rfl, .inl ⟨_, .inl B'.ls⟩, _, rfl, _, DGet.k (k := Sum.inr n) B'.ls, ?_⟩
    have e : (valV (tabK mL S.ents) (Sum.inr n : Key)).getD .non = optV (lstE S n) := by
      rw [valV_tab]
      unfold lstE
      cases findE S.ents n <;> rfl
    show Q ((valV (tabK mL S.ents) (Sum.inr n : Key)).getD .non) H'
    rw [e]
    exact k H' S'

/-! ### strength, in_order, names -/
/-- what a look at the strengths wants -/
structure BookR {τ : Type} (κ : Kd τ) (S : BS) (t : τ) (H : Hp) : Prop where
  ob : ∃ dx, H κ.p = some (.ins κ.C dx (fldsB S κ.dc κ.dl (κ.ex t)))
  cn : H κ.dc = some (.dK (tabK mC S.ents))
  ls : H κ.dl = some (.dK (tabK mL S.ents))
theorem BookAt.r {τ : Type} {κ : Kd τ} {S : BS} {t : τ} {H : Hp} (B : BookAt κ S t H) : BookR κ S t H := ⟨B.ob, B.cn, B.ls⟩
theorem BookR.same {τ : Type} {κ : Kd τ} {S : BS} {t : τ} {H H' : Hp} (B : BookR κ S t H) (h : Same H H') : BookR κ S t H' := let ⟨⟨dx, h1⟩, h2, h3⟩ := B; ⟨⟨dx, h _ _ h1⟩, h _ _ h2, h _ _ h3⟩
def spStrength : Sp := fun vs H Q _ => ∃ κ S t e, 𝒪.is κ ∧ vs = [.ref κ.p, .str e.1] ∧ BookR κ S t H ∧ findE S.ents e.1 = some e ∧ ∀ q, H q = none → Q (.ref q) (upd H q (.tup [.int e.2.1, .int e.2.2]))
theorem scStrength : FnScope ["self", "name"] ["self", "name"] (defScope sStrength) := ⟨rfl, rfl, rfl, by decide +kernel, rfl, by decide +kernel, by decide +kernel⟩
theorem ok_strength {f : Addr} (F : FunB K "strength" "Book.strength" sStrength f ["self", "name"]) (T : BTxt K C) : FnP P w K mg base 1 f ["self", "name"] (spStrength 𝒪) := by
  refine F.ok scStrength (fun vs H Q E h => ?_) (fun cdv A outer s H vs Q E hr h => ?_)
  · obtain ⟨κ, S, t, e, _, rfl, _⟩ := h
    rfl
  · obtain ⟨κ, S, t, e, hκ, rfl, B, he, k⟩ := h
    have hC := 𝒪.cls κ hκ
    obtain ⟨dx, h1⟩ := B.ob
    have hu := hu_of hr
    refine ⟨_, pss_one (ps_ret (pe_tup (pa_cons (pe_dget hu (pe_fld (pv 0) rfl) (pv 1) (fun _ _ => rfl)) (pa_cons (pe_dget hu (pe_fld (pv 0) rfl) (pv 1) (fun _ _ => rfl)) pa_nil)))), ?_⟩
    have g1 : DGet H κ.dc (.str e.1) (some (.int e.2.1)) := by
      have := DGet.k (k := Sum.inr e.1) B.cn
      rw [valV_tab, he] at this
      exact this
    have g2 : DGet H κ.dl (.str e.1) (some (.int e.2.2)) := by
      have := DGet.k (k := Sum.inr e.1) B.ls
      rw [valV_tab, he] at this
      exact this
    refine ⟨_, rfl, κ.p, κ.C, dx, _, _, rfl, h1, hC ▸ T.cl, hC ▸ T.n5, f_counts, _, rfl, κ.dc, _, rfl, g1, ?_⟩
    refine ⟨_, rfl, κ.p, κ.C, dx, _, _, rfl, h1, hC ▸ T.cl, hC ▸ T.n6, f_lasts, _, rfl, κ.dl, _, rfl, g2, (by show 2 ≤ sizeLine; decide), fun q hq => k q hq⟩

def keyOf (S : BS) (n : Str) : List Int := match findE S.ents n with
  | some e => [e.2.1, e.2.2]
  | none => []
/-- ys are ns, the weakest first -/
def Weak (S : BS) (ns ys : List Str) : Prop := ys.Perm ns ∧ ys.Pairwise fun a b => HT.lexLt (keyOf S a) (keyOf S b) = true
/-- the names are there, none twice, no two of them asked last in one deed -/
structure Sortable (S : BS) (ns : List Str) : Prop where
  there : ∀ n ∈ ns, ∃ e, findE S.ents n = some e
  few : ns.length < 64
  nd : ns.Nodup
  lasts : ∀ a ∈ S.ents, ∀ b ∈ S.ents, a.2.2 = b.2.2 → a.1 = b.1
theorem Sortable.keys {S : BS} {ns : List Str} (h : Sortable S ns) : (ns.map (keyOf S)).Pairwise (· ≠ ·) := by
  rw [List.pairwise_map]
  refine List.Pairwise.imp_of_mem ?_ h.nd
  intro a b ha hb hne he
  obtain ⟨ea, h1⟩ := h.there a ha
  obtain ⟨eb, h2⟩ := h.there b hb
  unfold keyOf at he
  rw [h1, h2] at he
  have hl : ea.2.2 = eb.2.2 := by
    have := (List.cons.inj (List.cons.inj he).2).1
    exact this
  have := h.lasts ea (findE_mem h1) eb (findE_mem h2) hl
  rw [(findE_some h1).1, (findE_some h2).1] at this
  exact hne this
theorem weak_of {S : BS} {ns : List Str} {qs : List (V × List Int)} (h : SortedBy (ns.map fun n => (V.str n, keyOf S n)) qs) : ∃ ys, Weak S ns ys ∧ qs.map (·.1) = ys.map V.str := by
  have key : ∀ (l : List (V × List Int)), (∀ q ∈ l, ∃ n ∈ ns, q = (V.str n, keyOf S n)) → ∃ ys : List Str, l = ys.map fun n => (V.str n, keyOf S n) := by
    intro l
    induction l with
    | nil => intro _; exact ⟨[], rfl⟩
    | cons q r ih =>
      intro hq
      obtain ⟨n, _, e⟩ := hq q List.mem_cons_self
      obtain ⟨ys, e2⟩ := ih fun z hz => hq z (List.mem_cons_of_mem _ hz)
      exact ⟨n :: ys, by rw [e, e2]; rfl⟩
  obtain ⟨ys, rfl⟩ := key qs fun q hq => by
    obtain ⟨n, hn, e⟩ := List.mem_map.mp (h.1.mem_iff.mp hq)
    exact ⟨n, hn, e.symm⟩
  refine ⟨ys, ⟨?_, ?_⟩, ?_⟩
  · have := h.1.map (fun q : V × List Int => match q.1 with | .str n => n | _ => ("" : Str))
    rw [List.map_map, List.map_map] at this
    simpa [Function.comp_def] using this
  · have := h.2
    rw [List.pairwise_map] at this
    exact this
  · rw [List.map_map]; rfl

def spInOrder (K : PySem.W.Frag) : Sp := fun vs H Q _ => ∃ κ S t x ns, 𝒪.is κ ∧ vs = [.ref κ.p, x] ∧ BookAt κ S t H ∧ Coll K H x (ns.map V.str) ∧ Sortable S ns ∧ ∀ l H' ys, H l = none → Same H H' → H' l = some (.lst (ys.map V.str)) → Weak S ns ys → Q (.ref l) H'
theorem scInOrder : FnScope ["self", "names"] ["self", "names"] (defScope sInOrder) := ⟨rfl, rfl, rfl, by decide +kernel, rfl, by decide +kernel, by decide +kernel⟩
theorem coll_same {K : PySem.W.Frag} {H H' : Hp} {x : V} {xs : List V} (h : Same H H') (c : Coll K H x xs) : Coll K H' x xs := by
  obtain ⟨p, rfl, c⟩ := c
  refine ⟨p, rfl, ?_⟩
  rcases c with c | ⟨kvs, c, e⟩
  · exact .inl (h.seq c)
  · refine .inr ⟨kvs, ?_, e⟩
    rcases c with c | ⟨o, c⟩
    · exact .inl (h _ _ c)
    · exact .inr ⟨o, h _ _ c⟩
theorem ok_inOrder {f g : Addr} (F : FunB K "in_order" "Book.in_order" sInOrder f ["self", "names"]) (T : BTxt K C) (B : Blt mg) (G : FnP P w K mg base 1 g ["self", "name"] (spStrength 𝒪)) (M : MethV K C "strength" g) : FnP P w K mg base 6 f ["self", "names"] (spInOrder 𝒪 K) := by
  obtain ⟨fd, G, hb, kp⟩ := G
  refine F.ok scInOrder (fun vs H Q E h => ?_) (fun cdv A outer s H vs Q E hr h => ?_)
  · obtain ⟨κ, S, t, x, ns, _, rfl, _⟩ := h
    rfl
  · obtain ⟨κ, S, t, x, ns, hκ, rfl, B1, hc, hs, k⟩ := h
    have hC := 𝒪.cls κ hκ
    have O := 𝒪.ok κ hκ
    obtain ⟨dx, h1⟩ := B1.ob
    rw [hC] at h1
    refine ⟨_, pss_one (ps_ret (pe_sortK rfl G (hr.mono (by decide)) hb rfl B.sorted (pv 1) (pe_bound (pv 0) T.cl M rfl))), ?_⟩
    refine ⟨_, rfl, _, rfl, κ.p, dx, _, rfl, h1, B1.fno O (by decide +kernel) (by decide +kernel), fun q hq => ?_⟩
    have S1 : Same H (upd H q (.met g κ.p)) := Same.upd hq
    refine ⟨q, κ.p, ns.map fun n => (V.str n, keyOf S n), 2, rfl, upd_same, ?_, by rw [List.length_map]; exact hs.few, by decide, ?_, ?_, ?_, ?_⟩
    · rw [List.map_map]
      exact coll_same S1 hc
    · intro z hz
      obtain ⟨n, hn, rfl⟩ := List.mem_map.mp hz
      obtain ⟨e, he⟩ := hs.there n hn
      show (keyOf S n).length = 2
      unfold keyOf
      rw [he]
      rfl
    · rw [List.map_map]
      exact hs.keys
    · intro z hz H' Q' SS hq'
      obtain ⟨n, hn, rfl⟩ := List.mem_map.mp hz
      obtain ⟨e, he⟩ := hs.there n hn
      have en : e.1 = n := (findE_some he).1
      subst en
      refine ⟨κ, S, t, e, hκ, rfl, ((B1.same O S1).same O SS).r, he, fun q2 hq2 => ?_⟩
      have ek : keyOf S e.1 = [e.2.1, e.2.2] := by unfold keyOf; rw [he]
      have := hq' q2 hq2
      rw [show ((V.str e.1, keyOf S e.1) : V × List Int).2 = [e.2.1, e.2.2] from ek] at this
      exact this
    · intro qs D H' sb hD SS hl
      obtain ⟨ys, wk, eq⟩ := weak_of sb
      rw [eq] at hl
      refine k D H' ys ?_ (S1.trans SS) hl wk
      cases e : H D with
      | none => rfl
      | some o => rw [S1 _ _ e] at hD; cases hD

end
end Lk

namespace Lk
open PySem L2

/-! ### what the code leans on -/
structure Fit (S : BS) : Prop where
  sp1 : 1 ≤ S.span
  sp2 : S.span ≤ 10 ^ 20
  pt1 : 2 ≤ S.part
  pt2 : S.part ≤ 10 ^ 30
  t0 : 0 ≤ S.time
  nd : (namesOf S.ents).Nodup
  cs : ∀ e ∈ S.ents, 0 < e.2.1 ∧ e.2.1 ≤ 10 ^ 60
  inj : ∀ a ∈ S.ents, ∀ b ∈ S.ents, a.2.2 = b.2.2 → a.1 = b.1
  few : S.ents.length < 64

/-! ### the mirror of an ageing -/
def stayE (p t : Int) (e : Str × Int × Int) : Bool := decide (0 < agedI e.2.1 p t)
def oldE (p t : Int) (e : Str × Int × Int) : Str × Int × Int := (e.1, agedI e.2.1 p t, e.2.2)
def ageE (es : List (Str × Int × Int)) (p t : Int) : List (Str × Int × Int) := (es.filter (stayE p t)).map (oldE p t)
def goneE (es : List (Str × Int × Int)) (p t : Int) : List (Str × Int × Int) := es.filter fun e => !stayE p t e
theorem ageE_append (a b : List (Str × Int × Int)) (p t : Int) : ageE (a ++ b) p t = ageE a p t ++ ageE b p t := by unfold ageE; rw [List.filter_append, List.map_append]
theorem goneE_append (a b : List (Str × Int × Int)) (p t : Int) : goneE (a ++ b) p t = goneE a p t ++ goneE b p t := by unfold goneE; rw [List.filter_append]
theorem ageE_names {es : List (Str × Int × Int)} {p t : Int} {n : Str} (h : n ∈ namesOf (ageE es p t)) : n ∈ namesOf es := by
  obtain ⟨e, he, rfl⟩ := List.mem_map.mp h
  obtain ⟨x, hx, rfl⟩ := List.mem_map.mp he
  exact List.mem_map.mpr ⟨x, (List.mem_filter.mp hx).1, rfl⟩
def ageS (S : BS) (times : Int) : BS := { S with ents := ageE S.ents S.part times }
def timesOf (S : BS) (steps : Int) : Int := (S.time + steps) / S.span - S.time / S.span
def passS (S : BS) (steps : Int) : BS := { S with time := S.time + steps, ents := if 0 < timesOf S steps then ageE S.ents S.part (timesOf S steps) else S.ents }
/-- those that fade, in the order of their last askings -/
def FadeOrder (S : BS) (times : Int) (qs : List (Int × Str)) : Prop := qs.Perm ((goneE S.ents S.part times).map fun e => (e.2.2, e.1)) ∧ qs.Pairwise fun a b => a.1 < b.1
def growE (es : List (Str × Int × Int)) (n : Str) (w d : Int) : List (Str × Int × Int) :=
  match findE es n with
  | some _ => es.map fun e => if e.1 = n then (e.1, e.2.1 + w, d) else e
  | none => es ++ [(n, w, d)]
theorem growE_none {es : List (Str × Int × Int)} {n : Str} {w d : Int} (h : findE es n = none) : growE es n w d = es ++ [(n, w, d)] := by unfold growE; rw [h]
theorem growE_mid {a b : List (Str × Int × Int)} {e : Str × Int × Int} {w d : Int} (ha : e.1 ∉ namesOf a) (hb : e.1 ∉ namesOf b) : growE (a ++ e :: b) e.1 w d = a ++ (e.1, e.2.1 + w, d) :: b := by
  have other : ∀ {l : List (Str × Int × Int)}, e.1 ∉ namesOf l → (l.map fun x => if x.1 = e.1 then (x.1, x.2.1 + w, d) else x) = l := by
    intro l
    induction l with
    | nil => intro _; rfl
    | cons x r ih =>
      intro h
      rw [List.map_cons, if_neg (fun z => h (by rw [← z]; exact List.mem_cons_self)), ih fun z => h (List.mem_cons_of_mem _ z)]
  unfold growE
  rw [findE_mid ha]
  show List.map _ (a ++ e :: b) = _
  rw [List.map_append, other ha, List.map_cons, if_pos rfl, other hb]
theorem nodup_mid {a b : List (Str × Int × Int)} {e : Str × Int × Int} (h : (namesOf (a ++ e :: b)).Nodup) : e.1 ∉ namesOf a ∧ e.1 ∉ namesOf b := by
  unfold namesOf at h
  rw [List.map_append, List.map_cons, List.nodup_append] at h
  obtain ⟨_, h2, h3⟩ := h
  exact ⟨fun z => h3 _ z _ List.mem_cons_self rfl, (List.nodup_cons.mp h2).1⟩

section
variable {P : Program} {w : World} {K : PySem.W.Frag} {mg : Str → Option Value} {base : Heap} {τ : Type} {C : Addr} (𝒪 : Objs τ C)
theorem line64 {n : Nat} (h : n < 64) : n < sizeLine := Nat.lt_of_lt_of_le h (by decide)

/-! ### grow -/
def spGrow : Sp := fun vs H Q _ => ∃ κ S t n w, 𝒪.is κ ∧ vs = [.ref κ.p, .str n, .int w] ∧ BookAt κ S t H ∧ (namesOf S.ents).Nodup ∧ S.ents.length < 64 ∧ ∀ H', BookAt κ { S with ents := growE S.ents n w S.deeds } t H' → Fr κ H H' → Q .non H'
theorem scGrow : FnScope ["self", "name", "weight"] ["self", "name", "weight"] (defScope sGrow) := ⟨rfl, rfl, rfl, by decide +kernel, rfl, by decide +kernel, by decide +kernel⟩
theorem ok_grow {f : Addr} (F : FunB K "grow" "Book.grow" sGrow f ["self", "name", "weight"]) (T : BTxt K C) : FnP P w K mg base 1 f ["self", "name", "weight"] (spGrow 𝒪) := by
  refine F.ok scGrow (fun vs H Q E h => ?_) (fun cdv A outer s H vs Q E hr h => ?_)
  · obtain ⟨κ, S, t, n, w, _, rfl, _⟩ := h
    rfl
  · obtain ⟨κ, S, t, n, w, hκ, rfl, B, hnd, hfew, k⟩ := h
    have hC := 𝒪.cls κ hκ
    have O := 𝒪.ok κ hκ
    obtain ⟨dx, h1⟩ := B.ob
    rw [hC] at h1
    have hu := hu_of hr
    have npc := B.pc
    have npl := B.pl
    refine ⟨_, pss_cons (ps_dput hu (pe_fld (pv 0) rfl) (pv 1) (pe_op op_add (pe_dget2 hu (pe_fld (pv 0) rfl) (pv 1) pe_int ⟨rfl, rfl, rfl, rfl⟩) (pv 2)) rfl)
      (pss_one (ps_dput hu (pe_fld (pv 0) rfl) (pv 1) (pe_fld (pv 0) rfl) rfl)), ?_⟩
    have ev : (valV (tabK mC S.ents) (Sum.inr n : Key)).getD (.int 0) = .int (cntE S n) := by
      rw [valV_tab]
      unfold cntE
      cases findE S.ents n <;> rfl
    refine ⟨_, rfl, κ.p, C, dx, _, _, rfl, h1, T.cl, T.n5, f_counts, κ.dc, rfl, .inl ⟨_, .inl B.cn⟩, _, rfl, _, DGet.k (k := Sum.inr n) B.cn, _, rfl, cntE S n, w, ev, rfl, ?_⟩
    refine ⟨_, rfl, κ.p, C, dx, _, _, rfl, h1, T.cl, T.n5, f_counts, _, rfl, κ.dc, _, rfl, DPut.k (k := Sum.inr n) B.cn (by rw [tabK_length]; exact line64 hfew), ?_⟩
    have h1' : ∀ o, (upd H κ.dc o) κ.p = some (.ins C dx (fldsB S κ.dc κ.dl (κ.ex t))) := fun o => by rw [upd_ne npc]; exact h1
    have hl' : ∀ o, (upd H κ.dc o) κ.dl = some (.dK (tabK mL S.ents)) := fun o => by rw [upd_ne O.ne.symm]; exact B.ls
    refine ⟨_, rfl, κ.p, C, dx, _, _, rfl, h1' _, T.cl, T.n4, f_deeds, _, rfl, κ.p, C, dx, _, _, rfl, h1' _, T.cl, T.n6, f_lasts, _, rfl, κ.dl, _, rfl, DPut.k (k := Sum.inr n) (hl' _) (by rw [tabK_length]; exact line64 hfew), ?_⟩
    have e1 : putK (tabK mC S.ents) (Sum.inr n : Key) (.int (cntE S n + w)) = tabK mC (growE S.ents n w S.deeds) ∧ putK (tabK mL S.ents) (Sum.inr n : Key) (.int S.deeds) = tabK mL (growE S.ents n w S.deeds) := by
      cases e : findE S.ents n with
      | none =>
        have v1 : valV (tabK mC S.ents) (Sum.inr n : Key) = none := by rw [valV_tab, e]; rfl
        have v2 : valV (tabK mL S.ents) (Sum.inr n : Key) = none := by rw [valV_tab, e]; rfl
        have c0 : cntE S n = 0 := by unfold cntE; rw [e]; rfl
        rw [growE_none e, putK_new _ v1, putK_new _ v2, tabK_append, tabK_append, c0, Int.zero_add]
        exact ⟨rfl, rfl⟩
      | some x =>
        have c0 : cntE S n = x.2.1 := by unfold cntE; rw [e]; rfl
        obtain ⟨en, a, b, es, ha⟩ := findE_some e
        subst en
        rw [es] at hnd
        obtain ⟨ha, hb⟩ := nodup_mid hnd
        rw [c0, es, growE_mid ha hb, putK_mid ha hb, putK_mid ha hb, tabK_append, tabK_append]
        exact ⟨rfl, rfl⟩
    refine k _ ⟨⟨dx, ?_⟩, ?_, ?_, ?_, al_upd (al_upd B.al (by intro xs z; cases z)) (by intro xs z; cases z)⟩ ?_
    · rw [upd_ne npl, hC]; exact h1' _
    · rw [upd_ne O.ne, upd_same]; exact congrArg (fun l => some (HO.dK l)) e1.1
    · rw [upd_same]; exact congrArg (fun l => some (HO.dK l)) e1.2
    · exact O.onU (O.onU B.ex (.inr (.inl rfl)) B.cn (by intro xs z; cases z)) (.inr (.inr (.inl rfl))) (hl' _) (by intro xs z; cases z)
    · exact fun b o e n => by rw [upd_ne (fun z => n (by rw [z]; exact O.ol)), upd_ne (fun z => n (by rw [z]; exact O.oc))]; exact e

/-! ### age_counts: fadeF tells what else becomes of the object where a name fades -/
variable (fadeF : Int → Str → Int → τ → τ)
def spFade : Sp := fun vs H Q _ => ∃ κ S t n l, 𝒪.is κ ∧ vs = [.ref κ.p, .str n, .int l] ∧ BookAt κ S t H ∧ ∀ H', BookAt κ S (fadeF S.deeds n l t) H' → Fr κ H H' → Q .non H'
def foldF (d : Int) (qs : List (Int × Str)) (t : τ) : τ := qs.foldl (fun t q => fadeF d q.2 q.1 t) t
def spAgeCounts : Sp := fun vs H Q _ => ∃ κ S t times, 𝒪.is κ ∧ vs = [.ref κ.p, .int times] ∧ BookAt κ S t H ∧ Fit S ∧ 0 < times ∧ ∀ qs H', FadeOrder S times qs → BookAt κ (ageS S times) (foldF fadeF S.deeds qs t) H' → Fr κ H H' → Q .non H'
theorem scAgeCounts : FnScope ["self", "times", "faded", "name", "count", "last"] ["self", "times"] (defScope sAgeCounts) := ⟨rfl, rfl, rfl, by decide +kernel, rfl, by decide +kernel, by decide +kernel⟩
/-- the entries, the first i of them aged -/
def midE (es : List (Str × Int × Int)) (p t : Int) (i : Nat) : List (Str × Int × Int) := ageE (es.take i) p t ++ es.drop i
theorem midE_at {es : List (Str × Int × Int)} {p t : Int} {i : Nat} {e : Str × Int × Int} (h : es[i]? = some e) : midE es p t i = ageE (es.take i) p t ++ e :: es.drop (i + 1) := by
  obtain ⟨hi, rfl⟩ := List.getElem?_eq_some_iff.mp h
  unfold midE
  rw [List.drop_eq_getElem_cons hi]
theorem take_at {α : Type} {es : List α} {i : Nat} {e : α} (h : es[i]? = some e) : es.take (i + 1) = es.take i ++ [e] := by
  rw [List.take_add_one, h]; rfl
theorem midE_stay {es : List (Str × Int × Int)} {p t : Int} {i : Nat} {e : Str × Int × Int} (h : es[i]? = some e) (hs : 0 < agedI e.2.1 p t) : midE es p t (i + 1) = ageE (es.take i) p t ++ (oldE p t e) :: es.drop (i + 1) := by
  unfold midE
  rw [take_at h, ageE_append]
  have : ageE [e] p t = [oldE p t e] := by
    unfold ageE
    rw [List.filter_cons, if_pos (show stayE p t e = true from decide_eq_true hs)]
    rfl
  rw [this, List.append_assoc]
  rfl
theorem midE_go {es : List (Str × Int × Int)} {p t : Int} {i : Nat} {e : Str × Int × Int} (h : es[i]? = some e) (hs : ¬ 0 < agedI e.2.1 p t) : midE es p t (i + 1) = ageE (es.take i) p t ++ es.drop (i + 1) ∧ goneE (es.take (i + 1)) p t = goneE (es.take i) p t ++ [e] := by
  have hf : stayE p t e = false := decide_eq_false hs
  unfold midE
  rw [take_at h, ageE_append, goneE_append]
  have h1 : ageE [e] p t = [] := by
    unfold ageE
    rw [List.filter_cons, if_neg (by rw [hf]; simp)]
    rfl
  have h2 : goneE [e] p t = [e] := by
    unfold goneE
    rw [List.filter_cons, if_pos (by rw [hf]; rfl)]
    rfl
  rw [h1, h2, List.append_nil]
  exact ⟨rfl, rfl⟩
theorem gone_stay {es : List (Str × Int × Int)} {p t : Int} {i : Nat} {e : Str × Int × Int} (h : es[i]? = some e) (hs : 0 < agedI e.2.1 p t) : goneE (es.take (i + 1)) p t = goneE (es.take i) p t := by
  rw [take_at h, goneE_append]
  have h2 : goneE [e] p t = [] := by
    unfold goneE
    rw [List.filter_cons, if_neg (by rw [show stayE p t e = true from decide_eq_true hs]; simp)]
    rfl
  rw [h2, List.append_nil]
theorem mid_apart {es : List (Str × Int × Int)} {p t : Int} {i : Nat} {e : Str × Int × Int} (hnd : (namesOf es).Nodup) (h : es[i]? = some e) : e.1 ∉ namesOf (ageE (es.take i) p t) ∧ e.1 ∉ namesOf (es.drop (i + 1)) := by
  obtain ⟨hi, rfl⟩ := List.getElem?_eq_some_iff.mp h
  have e1 : es = es.take i ++ es[i] :: es.drop (i + 1) := by
    conv => lhs; rw [← List.take_append_drop i es, List.drop_eq_getElem_cons hi]
  rw [e1] at hnd
  obtain ⟨h1, h2⟩ := nodup_mid hnd
  refine ⟨fun z => h1 ?_, ?_⟩
  · simpa using ageE_names z
  · simpa using h2
end
end Lk

namespace Lk
open PySem L2
section
variable {P : Program} {w : World} {K : PySem.W.Frag} {mg : Str → Option Value} {base : Heap} {τ : Type} {C : Addr} (𝒪 : Objs τ C) (fadeF : Int → Str → Int → τ → τ)

/-- between two names of the first loop -/
structure Mid (κ : Kd τ) (S : BS) (t : τ) (H H' : Hp) (times : Int) (fl ls : Addr) (i : Nat) (ts : List (Addr × Str × Int × Int)) : Prop where
  hl : H' ls = some (.lst (S.ents.map fun e => .str e.1))
  hf : H' fl = some (.lst (ts.map fun q => .ref q.1))
  ht : ∀ q ∈ ts, H' q.1 = some (.tup [.int q.2.2.2, .str q.2.1])
  hg : ts.map (·.2) = goneE (S.ents.take i) S.part times
  bk : BookAt κ { S with ents := midE S.ents S.part times i } t H'
  fr : Fr κ H H'
theorem perm_map_back {α β : Type} (g : α → β) : ∀ {m : List β} {l : List α}, m.Perm (l.map g) → ∃ k : List α, k.Perm l ∧ m = k.map g
  | [], l, h => by
    have := h.length_eq
    rw [List.length_map] at this
    exact ⟨[], by rw [List.length_eq_zero_iff.mp this.symm], rfl⟩
  | x :: r, l, h => by
    obtain ⟨a, ha, rfl⟩ := List.mem_map.mp (h.mem_iff.mp List.mem_cons_self)
    obtain ⟨s1, s2, rfl⟩ := List.append_of_mem ha
    have h2 : (g a :: r).Perm (g a :: (s1 ++ s2).map g) := by
      refine h.trans ?_
      rw [List.map_append, List.map_cons, List.map_append]
      exact List.perm_middle
    obtain ⟨k, hk, rfl⟩ := perm_map_back g h2.cons_inv
    exact ⟨a :: k, (hk.cons a).trans List.perm_middle.symm, rfl⟩
theorem fade_order {S : BS} {times : Int} {ts : List (Addr × Str × Int × Int)} (hg : ts.map (·.2) = goneE S.ents S.part times) {zs qs : List (V × List Int)} (hz : zs = ts.map fun q => (V.ref q.1, [q.2.2.2])) (h : SortedBy zs qs) :
    ∃ us : List (Addr × Str × Int × Int), us.Perm ts ∧ qs = us.map (fun q => (V.ref q.1, [q.2.2.2])) ∧ FadeOrder S times (us.map fun q => (q.2.2.2, q.2.1)) := by
  subst hz
  obtain ⟨us, hp, rfl⟩ : ∃ us : List (Addr × Str × Int × Int), us.Perm ts ∧ qs = us.map (fun q => (V.ref q.1, [q.2.2.2])) := perm_map_back _ h.1
  refine ⟨us, hp, rfl, ?_, ?_⟩
  · rw [← hg, List.map_map]
    exact hp.map _
  · have := h.2
    rw [List.pairwise_map] at this ⊢
    refine this.imp fun {a b} hab => ?_
    rw [HT.lexLt_cons] at hab
    by_cases e : a.2.2.2 = b.2.2.2
    · rw [if_pos e, HT.lexLt_nil_nil] at hab; cases hab
    · rw [if_neg e] at hab; exact of_decide_eq_true hab

theorem ok_ageCounts {f ga gf : Addr} (F : FunB K "age_counts" "Book.age_counts" sAgeCounts f ["self", "times"]) (T : BTxt K C) (B : Blt mg) (Ga : FnP P w K mg base 1 ga ["count", "part", "times"] spAged) (hga : mg "aged" = some (.ref ga)) (Gf : FnP P w K mg base 8 gf ["self", "name", "last"] (spFade 𝒪 fadeF)) (Mf : Meth K C "fade" gf) :
    FnP P w K mg base 12 f ["self", "times"] (spAgeCounts 𝒪 fadeF) := by
  refine F.ok scAgeCounts (fun vs H Q E h => ?_) (fun cdv A outer s H vs Q E hr h => ?_)
  · obtain ⟨κ, S, t, times, _, rfl, _⟩ := h
    rfl
  · obtain ⟨κ, S, t, times, hκ, rfl, B0, fit, htimes, k⟩ := h
    have hC := 𝒪.cls κ hκ
    have O := 𝒪.ok κ hκ
    have hu := hu_of hr
    refine ⟨_, pss_cons (ps_set (i := 2) scAgeCounts.nd rfl (Or.inl rfl) (pe_lst pa_nil))
      (pss_cons (ps_for PassesOwn.never rfl (pi_list (pe_callTy (call_listD rfl) rfl B.list PyProof.Rows.boot_list (pa_cons (pe_fld (pv 0) rfl) pa_nil))) (pg_name (i := 3) scAgeCounts.nd rfl (Or.inl rfl))
        (pss_cons (ps_set (i := 4) scAgeCounts.nd rfl (Or.inl rfl) (pe_callP Ga (hr.mono (by decide)) hga (pa_cons (pe_dget hu (pe_fld (pv 0) rfl) (pv 3) (fun _ _ => rfl)) (pa_cons (pe_fld (pv 0) rfl) (pa_cons (pv 1) pa_nil)))))
        (pss_one (ps_if (pt_cmpR op_gt (pv 4) pe_int (nomark _)) (pss_one (ps_dput hu (pe_fld (pv 0) rfl) (pv 3) (pv 4) rfl))
          (pss_cons (ps_expr (pe_bm PySem.F.plainAttrs_list PySem.F.slot_list_append PySem.F.type_list_append mt_append (pv 2) (pa_cons (pe_tup (pa_cons (pe_dget hu (pe_fld (pv 0) rfl) (pv 3) (fun _ _ => rfl)) (pa_cons (pv 3) pa_nil))) pa_nil)))
          (pss_cons (ps_expr (pe_dpop1 (pe_fld (pv 0) rfl) (pv 3) ⟨rfl, rfl, rfl, rfl⟩)) (pss_one (ps_expr (pe_dpop1 (pe_fld (pv 0) rfl) (pv 3) ⟨rfl, rfl, rfl, rfl⟩)))))))))
      (pss_one (ps_for PassesOwn.never rfl (pi_list (pe_callB (call_sorted rfl) rfl B.sorted PyProof.Rows.boot_sorted (pa_cons (pv 2) pa_nil))) (pg_tup rfl (pgs_cons (pg_name (i := 5) scAgeCounts.nd rfl (Or.inl rfl)) (pgs_cons (pg_name (i := 3) scAgeCounts.nd rfl (Or.inl rfl)) pgs_nil)))
        (pss_one (ps_expr (pe_methP (pv 0) T.cl Mf Gf (hr.mono (by decide)) (pa_cons (pv 3) (pa_cons (pv 5) pa_nil)))))))), ?_⟩
    -- faded = []
    refine ⟨by decide, fun fl hfl => ?_⟩
    have Sm1 : Same H (upd H fl (.lst [])) := Same.upd hfl
    have B1 := B0.same O Sm1
    obtain ⟨dx, h1⟩ := B1.ob
    rw [hC] at h1
    -- list(self.counts)
    refine ⟨_, rfl, κ.p, C, dx, _, _, rfl, h1, T.cl, T.n5, f_counts, κ.dc, _, rfl, .inl B1.cn, fun ls hls => ?_⟩
    have Sm2 : Same (upd H fl (.lst [])) (upd (upd H fl (.lst [])) ls (.lst ((tabK mC S.ents).map fun kv => kV kv.1))) := Same.upd hls
    have ekeys : ((tabK mC S.ents).map fun kv => kV kv.1) = S.ents.map fun e => V.str e.1 := by unfold tabK; rw [List.map_map]; rfl
    have hls2 : (upd (upd H fl (.lst [])) ls (.lst ((tabK mC S.ents).map fun kv => kV kv.1))) ls = some (.lst (S.ents.map fun e => .str e.1)) := by rw [upd_same, ekeys]
    have B2 := B1.same O Sm2
    have nfl : ¬ κ.own fl := B0.new hfl
    have nls : ¬ κ.own ls := B1.new hls
    have nfls : fl ≠ ls := ne_of_none upd_same hls
    refine ⟨ls, rfl, ⟨_, SqL.of hls2⟩, for_list (K := K) (a := ls) (xs := S.ents.map fun e => V.str e.1) (fun i σ H' => ∃ ts z3 z4, σ = [some (.ref κ.p), some (.int times), some (.ref fl), z3, z4, none] ∧ Mid κ S t H H' times fl ls i ts)
      ⟨[], none, none, rfl, ?_⟩ (fun i σ H' _ ⟨ts, z3, z4, _, M⟩ => SqL.of M.hl) ?_ ?_⟩
    · refine ⟨hls2, ?_, fun q hq => by simp at hq, rfl, ?_, Fr.of_same (Sm1.trans Sm2)⟩
      · exact Sm2 _ _ upd_same
      · exact B2
    · -- a turn
      rintro i x σ H1 hi ⟨ts, z3, z4, rfl, M⟩
      obtain ⟨e, he, rfl⟩ : ∃ e, S.ents[i]? = some e ∧ x = .str e.1 := by
        rw [List.getElem?_map] at hi
        cases q : S.ents[i]? with
        | none => rw [q] at hi; cases hi
        | some e => rw [q] at hi; exact ⟨e, rfl, (Option.some.inj hi).symm⟩
      have hmem : e ∈ S.ents := List.mem_of_getElem? he
      obtain ⟨hap1, hap2⟩ := mid_apart (p := S.part) (t := times) fit.nd he
      obtain ⟨c1, c2⟩ := fit.cs e hmem
      have eM := midE_at (p := S.part) (t := times) he
      obtain ⟨dx1, g1⟩ := M.bk.ob
      rw [hC] at g1
      have gc : H1 κ.dc = some (.dK (tabK mC (ageE (S.ents.take i) S.part times ++ e :: S.ents.drop (i + 1)))) := by rw [← eM]; exact M.bk.cn
      have gl : H1 κ.dl = some (.dK (tabK mL (ageE (S.ents.take i) S.part times ++ e :: S.ents.drop (i + 1)))) := by rw [← eM]; exact M.bk.ls
      have vc : DGet H1 κ.dc (.str e.1) (some (.int e.2.1)) := by
        have := DGet.k (k := Sum.inr e.1) gc
        rw [valV_tab, findE_mid hap1] at this
        exact this
      have vl : DGet H1 κ.dl (.str e.1) (some (.int e.2.2)) := by
        have := DGet.k (k := Sum.inr e.1) gl
        rw [valV_tab, findE_mid hap1] at this
        exact this
      have npc := M.bk.pc
      have npl := M.bk.pl
      -- count = aged(..)
      refine ⟨_, rfl, κ.p, C, dx1, _, _, rfl, g1, T.cl, T.n5, f_counts, _, rfl, κ.dc, _, rfl, vc, _, rfl, κ.p, C, dx1, _, _, rfl, g1, T.cl, T.n2, f_part, _, rfl, e.2.1, S.part, times, rfl, by omega, c2, fit.pt1, fit.pt2, by omega, ?_⟩
      -- if count > 0
      refine ⟨_, rfl, _, _, rfl, rfl, _, rfl, ?_⟩
      have hlen : (ageE (S.ents.take i) S.part times ++ e :: S.ents.drop (i + 1)).length < 64 := by
        have l1 : (ageE (S.ents.take i) S.part times).length ≤ i := by
          unfold ageE
          rw [List.length_map]
          exact Nat.le_trans (List.length_filter_le _ _) (by rw [List.length_take]; omega)
        have l2 : i < S.ents.length := (List.getElem?_eq_some_iff.mp he).1
        have l3 := fit.few
        rw [List.length_append, List.length_cons, List.length_drop]
        omega
      refine ite2 (fun hpos => ?_) (fun hneg => ?_)
      · have hpos : 0 < agedI e.2.1 S.part times := of_decide_eq_true hpos
        refine ⟨_, rfl, _, rfl, κ.p, C, dx1, _, _, rfl, g1, T.cl, T.n5, f_counts, _, rfl, κ.dc, _, rfl, DPut.k (k := Sum.inr e.1) gc (by rw [tabK_length]; exact line64 hlen), ?_⟩
        refine ⟨ts, _, _, rfl, ?_, ?_, fun q hq => ?_, ?_, ?_, ?_⟩
        · rw [upd_ne (fun z => nls (by rw [z]; exact O.oc))]; exact M.hl
        · rw [upd_ne (fun z => nfl (by rw [z]; exact O.oc))]; exact M.hf
        · rw [upd_ne (ne_of (M.ht q hq) gc (by intro z; cases z))]; exact M.ht q hq
        · rw [gone_stay he hpos]; exact M.hg
        · have eN := midE_stay (p := S.part) (t := times) he hpos
          refine ⟨⟨dx1, ?_⟩, ?_, ?_, O.onU M.bk.ex (.inr (.inl rfl)) gc (by intro xs z; cases z), al_upd M.bk.al (by intro xs z; cases z)⟩
          · rw [upd_ne npc, hC]; exact g1
          · rw [upd_same, putK_mid hap1 hap2]
            show _ = some (HO.dK (tabK mC (midE S.ents S.part times (i + 1))))
            rw [eN, tabK_append]
            rfl
          · rw [upd_ne O.ne.symm]
            show _ = some (HO.dK (tabK mL (midE S.ents S.part times (i + 1))))
            rw [eN, gl, tabK_append, tabK_append]
            rfl
        · exact M.fr.trans (Fr.upd O O.oc)
      · have hneg : ¬ 0 < agedI e.2.1 S.part times := fun z => hneg (decide_eq_true z)
        obtain ⟨eN, eG⟩ := midE_go (p := S.part) (t := times) he hneg
        -- faded.append((self.lasts[name], name))
        refine ⟨_, rfl, .inl ⟨rfl, _, SqL.of M.hf⟩, _, rfl, κ.p, C, dx1, _, _, rfl, g1, T.cl, T.n6, f_lasts, _, rfl, κ.dl, _, rfl, vl, _, rfl, (by show 2 ≤ sizeLine; decide), fun tq htq => ?_⟩
        have Smt : Same H1 (upd H1 tq (.tup [.int e.2.2, .str e.1])) := Same.upd htq
        have hf2 := Smt _ _ M.hf
        have nts : ts.length < 64 := by
          have := congrArg List.length M.hg
          rw [List.length_map] at this
          rw [this]
          refine Nat.lt_of_le_of_lt ?_ fit.few
          unfold goneE
          exact Nat.le_trans (List.length_filter_le _ _) (by rw [List.length_take]; omega)
        refine ⟨fl, _, _, rfl, rfl, hf2, by rw [List.length_map]; exact line64 nts, ?_⟩
        have hfne : ∀ b o, H1 b = some o → (∀ l, o ≠ .lst l) → b ≠ fl := fun b o e1 hne => ne_of e1 M.hf (fun z => hne _ z)
        have g1' : (upd (upd H1 tq (.tup [.int e.2.2, .str e.1])) fl (.lst ((ts.map fun q => V.ref q.1) ++ [.ref tq]))) κ.p = some (.ins C dx1 (fldsB { S with ents := midE S.ents S.part times i } κ.dc κ.dl (κ.ex t))) := by
          rw [upd_ne (hfne _ _ g1 (by intro l z; cases z))]; exact Smt _ _ g1
        have gc' : (upd (upd H1 tq (.tup [.int e.2.2, .str e.1])) fl (.lst ((ts.map fun q => V.ref q.1) ++ [.ref tq]))) κ.dc = some (.dK (tabK mC (ageE (S.ents.take i) S.part times ++ e :: S.ents.drop (i + 1)))) := by
          rw [upd_ne (hfne _ _ gc (by intro l z; cases z))]; exact Smt _ _ gc
        have gl' : (upd (upd H1 tq (.tup [.int e.2.2, .str e.1])) fl (.lst ((ts.map fun q => V.ref q.1) ++ [.ref tq]))) κ.dl = some (.dK (tabK mL (ageE (S.ents.take i) S.part times ++ e :: S.ents.drop (i + 1)))) := by
          rw [upd_ne (hfne _ _ gl (by intro l z; cases z))]; exact Smt _ _ gl
        generalize hH2 : upd (upd H1 tq (.tup [.int e.2.2, .str e.1])) fl (.lst ((ts.map fun q => V.ref q.1) ++ [.ref tq])) = H2 at g1' gc' gl' ⊢
        have keep2 : ∀ b o, H1 b = some o → b ≠ fl → H2 b = some o := fun b o e1 hb => by rw [← hH2, upd_ne hb]; exact Smt _ _ e1
        have vc' : valV (tabK mC (ageE (S.ents.take i) S.part times ++ e :: S.ents.drop (i + 1))) (Sum.inr e.1 : Key) = some (.int e.2.1) := by rw [valV_tab, findE_mid hap1]; rfl
        have vl' : valV (tabK mL (ageE (S.ents.take i) S.part times ++ e :: S.ents.drop (i + 1))) (Sum.inr e.1 : Key) = some (.int e.2.2) := by rw [valV_tab, findE_mid hap1]; rfl
        -- self.counts.pop(name)
        refine ⟨_, rfl, κ.p, C, dx1, _, _, rfl, g1', T.cl, T.n5, f_counts, κ.dc, rfl, .inl ⟨_, .inl gc'⟩, _, rfl, _, Sum.inr e.1, _, gc', rfl, vc', ?_⟩
        have g1'' : ∀ o, (upd H2 κ.dc o) κ.p = some (.ins C dx1 (fldsB { S with ents := midE S.ents S.part times i } κ.dc κ.dl (κ.ex t))) := fun o => by rw [upd_ne npc]; exact g1'
        have gl'' : ∀ o, (upd H2 κ.dc o) κ.dl = some (.dK (tabK mL (ageE (S.ents.take i) S.part times ++ e :: S.ents.drop (i + 1)))) := fun o => by rw [upd_ne O.ne.symm]; exact gl'
        refine ⟨_, rfl, κ.p, C, dx1, _, _, rfl, g1'' _, T.cl, T.n6, f_lasts, κ.dl, rfl, .inl ⟨_, .inl (gl'' _)⟩, _, rfl, _, Sum.inr e.1, _, gl'' _, rfl, vl', ?_⟩
        refine ⟨ts ++ [(tq, e)], _, _, rfl, ?_, ?_, fun q hq => ?_, ?_, ?_, ?_⟩
        · rw [upd_ne (fun z => nls (by rw [z]; exact O.ol)), upd_ne (fun z => nls (by rw [z]; exact O.oc))]
          exact keep2 _ _ M.hl (Ne.symm nfls)
        · rw [upd_ne (fun z => nfl (by rw [z]; exact O.ol)), upd_ne (fun z => nfl (by rw [z]; exact O.oc)), ← hH2, upd_same, List.map_append]
          rfl
        · have hq' : H2 q.1 = some (.tup [.int q.2.2.2, .str q.2.1]) := by
            rcases List.mem_append.mp hq with z | z
            · exact keep2 _ _ (M.ht q z) (hfne _ _ (M.ht q z) (by intro l z; cases z))
            · rw [List.mem_singleton.mp z, ← hH2, upd_ne (Ne.symm (ne_of_none M.hf htq)), upd_same]
          rw [upd_ne (ne_of hq' gl' (by intro z; cases z)), upd_ne (ne_of hq' gc' (by intro z; cases z))]
          exact hq'
        · rw [List.map_append, M.hg, eG]; rfl
        · have on2 : κ.on t H2 := by
            rw [← hH2]
            exact O.onU ((M.bk.same O Smt).ex) (.inr (.inr (.inr nfl))) hf2 (by intro xs z; cases z)
          refine ⟨⟨dx1, ?_⟩, ?_, ?_, O.onU (O.onU on2 (.inr (.inl rfl)) gc' (by intro xs z; cases z)) (.inr (.inr (.inl rfl))) (gl'' _) (by intro xs z; cases z), al_upd (al_upd ?_ (by intro xs z; cases z)) (by intro xs z; cases z)⟩
          · rw [upd_ne npl, hC]; exact g1'' _
          · rw [upd_ne O.ne, upd_same, dropK_mid hap1 hap2]
            show _ = some (HO.dK (tabK mC (midE S.ents S.part times (i + 1))))
            rw [eN]
          · rw [upd_same, dropK_mid hap1 hap2]
            show _ = some (HO.dK (tabK mL (midE S.ents S.part times (i + 1))))
            rw [eN]
          · rw [← hH2]; exact al_upd (M.bk.same O Smt).al (by intro xs z; cases z)
        · intro b o e1 n1
          have hb1 := M.fr b o e1 n1
          rw [upd_ne (fun z => n1 (by rw [z]; exact O.ol)), upd_ne (fun z => n1 (by rw [z]; exact O.oc))]
          exact keep2 b o hb1 (ne_of_none e1 hfl)
    · -- behind the first loop
      rintro σ H1 ⟨ts, z3, z4, rfl, M⟩
      rw [List.length_map] at M
      have hg : ts.map (·.2) = goneE S.ents S.part times := by
        have := M.hg
        rw [List.take_of_length_le (Nat.le_refl _)] at this
        exact this
      have bk : BookAt κ (ageS S times) t H1 := by
        have := M.bk
        unfold midE at this
        rw [List.take_of_length_le (Nat.le_refl _), List.drop_of_length_le (Nat.le_refl _), List.append_nil] at this
        exact this
      have hmem : ∀ q ∈ ts, q.2 ∈ S.ents := fun q hq => by
        have : q.2 ∈ goneE S.ents S.part times := by rw [← hg]; exact List.mem_map.mpr ⟨q, hq, rfl⟩
        exact (List.mem_filter.mp this).1
      have hnd : (ts.map fun q => q.2.1).Nodup := by
        have : ((ts.map (·.2)).map (·.1)).Nodup := by
          rw [hg]
          unfold goneE
          exact (List.filter_sublist.map _).nodup fit.nd
        rw [List.map_map] at this
        exact this
      have nts : ts.length < 64 := by
        have := congrArg List.length hg
        rw [List.length_map] at this
        rw [this]
        exact Nat.lt_of_le_of_lt (List.length_filter_le _ _) fit.few
      -- sorted(faded)
      refine ⟨_, rfl, _, ts.map fun q => (V.ref q.1, [q.2.2.2]), 1, rfl, ⟨fl, rfl, .inl (SqL.of (by rw [List.map_map]; exact M.hf))⟩, by rw [List.length_map]; exact nts, by decide, ?_, ?_, ?_, fun qs D sb hD => ?_⟩
      · intro z hz
        obtain ⟨q, hq, rfl⟩ := List.mem_map.mp hz
        rfl
      · rw [List.map_map, List.pairwise_map]
        have : ts.Pairwise fun a b => a.2.1 ≠ b.2.1 := by
          have := hnd
          unfold List.Nodup at this
          rw [List.pairwise_map] at this
          exact this
        refine List.Pairwise.imp_of_mem ?_ this
        intro a b ha hb hab he
        exact hab (fit.inj _ (hmem a ha) _ (hmem b hb) (List.cons.inj he).1)
      · intro z hz
        obtain ⟨q, hq, rfl⟩ := List.mem_map.mp hz
        exact ⟨q.1, [.str q.2.1], rfl, SqT.of (M.ht q hq)⟩
      · obtain ⟨us, hp, rfl, fo⟩ := fade_order hg rfl sb
        have SmD : Same H1 (upd H1 D (.lst ((us.map fun q => (V.ref q.1, [q.2.2.2])).map (·.1)))) := Same.upd hD
        have exs : (us.map fun q => (V.ref q.1, [q.2.2.2])).map (·.1) = us.map fun q => V.ref q.1 := by rw [List.map_map]; rfl
        have nD : ¬ κ.own D := bk.new hD
        have ntq : ∀ q ∈ us, ¬ κ.own q.1 := fun q hq => bk.noTup (M.ht q (hp.mem_iff.mp hq))
        refine ⟨D, rfl, ⟨_, SqL.of upd_same⟩, for_list (K := K) (a := D) (xs := us.map fun q => V.ref q.1) (fun j σ H' => ∃ z3 z4 z5, σ = [some (.ref κ.p), some (.int times), some (.ref fl), z3, z4, z5] ∧ H' D = some (.lst (us.map fun q => .ref q.1)) ∧ (∀ q ∈ us, H' q.1 = some (.tup [.int q.2.2.2, .str q.2.1])) ∧
            BookAt κ (ageS S times) (foldF fadeF S.deeds ((us.take j).map fun q => (q.2.2.2, q.2.1)) t) H' ∧ Fr κ H H')
          ⟨z3, z4, none, rfl, by rw [upd_same, exs], fun q hq => SmD _ _ (M.ht q (hp.mem_iff.mp hq)), bk.same O SmD, M.fr.trans (Fr.of_same SmD)⟩ (fun j σ H' _ ⟨_, _, _, _, hl, _⟩ => SqL.of hl) ?_ ?_⟩
        · rintro j x σ H2 hj ⟨y3, y4, y5, rfl, hl2, ht2, b2, f2⟩
          obtain ⟨q, hq, rfl⟩ : ∃ q, us[j]? = some q ∧ x = .ref q.1 := by
            rw [List.getElem?_map] at hj
            cases e : us[j]? with
            | none => rw [e] at hj; cases hj
            | some q => rw [e] at hj; exact ⟨q, rfl, (Option.some.inj hj).symm⟩
          have hqm : q ∈ us := List.mem_of_getElem? hq
          obtain ⟨dx2, g2⟩ := b2.ob
          rw [hC] at g2
          refine ⟨q.1, _, rfl, SqT.of (ht2 q hqm), rfl, _, _, rfl, _, _, rfl, rfl, ?_⟩
          refine ⟨_, rfl, κ.p, dx2, _, rfl, g2, b2.fno O (by decide +kernel) (by decide +kernel), _, rfl, _, rfl, ?_⟩
          refine ⟨κ, ageS S times, _, q.2.1, q.2.2.2, hκ, rfl, b2, fun H3 b3 f3 => ?_⟩
          refine ⟨_, _, _, rfl, f3 _ _ hl2 nD, fun q' hq' => f3 _ _ (ht2 q' hq') (ntq q' hq'), ?_, f2.trans f3⟩
          rw [take_at hq, List.map_append]
          unfold foldF at b3 ⊢
          rw [List.foldl_append]
          exact b3
        · rintro σ H2 ⟨y3, y4, y5, rfl, hl2, ht2, b2, f2⟩
          rw [List.length_map, List.take_of_length_le (Nat.le_refl _)] at b2
          exact k _ H2 fo b2 f2
end
end Lk

namespace Lk
open PySem L2
section
variable {P : Program} {w : World} {K : PySem.W.Frag} {mg : Str → Option Value} {base : Heap} {τ : Type} {C : Addr} (𝒪 : Objs τ C) (fadeF : Int → Str → Int → τ → τ)

/-! ### pass_time -/
/-- what becomes of the rest of the object while time passes -/
def PassT (S : BS) (steps : Int) (t t' : τ) : Prop := if 0 < timesOf S steps then ∃ qs, FadeOrder S (timesOf S steps) qs ∧ t' = foldF fadeF S.deeds qs t else t' = t
def spPassTime : Sp := fun vs H Q _ => ∃ κ S t steps, 𝒪.is κ ∧ vs = [.ref κ.p, .int steps] ∧ BookAt κ S t H ∧ Fit S ∧ 0 ≤ steps ∧ ∀ t' H', PassT fadeF S steps t t' → BookAt κ (passS S steps) t' H' → Fr κ H H' → Q (.int (timesOf S steps)) H'
theorem scPassTime : FnScope ["self", "steps", "times"] ["self", "steps"] (defScope sPassTime) := ⟨rfl, rfl, rfl, by decide +kernel, rfl, by decide +kernel, by decide +kernel⟩
theorem ok_passTime {f ga gc : Addr} (F : FunB K "pass_time" "Book.pass_time" sPassTime f ["self", "steps"]) (T : BTxt K C) (Ga : FnP P w K mg base 1 ga ["span", "since", "upto"] spAgeings) (hga : mg "ageings" = some (.ref ga)) (Gc : FnP P w K mg base 12 gc ["self", "times"] (spAgeCounts 𝒪 fadeF)) (Mc : Meth K C "age_counts" gc) :
    FnP P w K mg base 14 f ["self", "steps"] (spPassTime 𝒪 fadeF) := by
  refine F.ok scPassTime (fun vs H Q E h => ?_) (fun cdv A outer s H vs Q E hr h => ?_)
  · obtain ⟨κ, S, t, steps, _, rfl, _⟩ := h
    rfl
  · obtain ⟨κ, S, t, steps, hκ, rfl, B0, fit, hst, k⟩ := h
    have hC := 𝒪.cls κ hκ
    have O := 𝒪.ok κ hκ
    obtain ⟨dx, h1⟩ := B0.ob
    rw [hC] at h1
    refine ⟨_, pss_cons (ps_set (i := 2) scPassTime.nd rfl (Or.inl rfl) (pe_callP Ga (hr.mono (by decide)) hga (pa_cons (pe_fld (pv 0) rfl) (pa_cons (pe_fld (pv 0) rfl) (pa_cons (pe_op op_add (pe_fld (pv 0) rfl) (pv 1)) pa_nil)))))
      (pss_cons (ps_fldaug (pv 0) (pv 1) in_add)
      (pss_cons (ps_if (pt_cmpR op_gt (pv 2) pe_int (nomark _)) (pss_one (ps_expr (pe_methP (pv 0) T.cl Mc Gc (hr.mono (by decide)) (pa_cons (pv 2) pa_nil)))) pss_nil)
      (pss_one (ps_ret (pv 2))))), ?_⟩
    refine ⟨_, rfl, κ.p, C, dx, _, _, rfl, h1, T.cl, T.n1, f_span, _, rfl, κ.p, C, dx, _, _, rfl, h1, T.cl, T.n3, f_time, _, rfl, κ.p, C, dx, _, _, rfl, h1, T.cl, T.n3, f_time, _, rfl, _, _, rfl, rfl, S.span, S.time, S.time + steps, rfl, fit.sp1, fit.sp2, ?_⟩
    refine ⟨_, rfl, κ.p, C, dx, _, _, rfl, h1, T.cl, T.n3, f_time, _, rfl, _, _, rfl, rfl, dx, _, h1, f_len (O.exl t), ?_⟩
    have B1 : BookAt κ { S with time := S.time + steps } t (upd H κ.p (.ins C dx (putF "time" (.int (S.time + steps)) (fldsB S κ.dc κ.dl (κ.ex t))))) := by
      rw [f_setTime, ← hC]
      exact B0.setOb O rfl
    have F1 : Fr κ H (upd H κ.p (.ins C dx (putF "time" (.int (S.time + steps)) (fldsB S κ.dc κ.dl (κ.ex t))))) := Fr.upd O O.op
    refine ⟨_, rfl, _, _, rfl, rfl, _, rfl, ?_⟩
    refine ite2 (fun hpos => ?_) (fun hneg => ?_)
    · have hpos : 0 < timesOf S steps := of_decide_eq_true hpos
      obtain ⟨dx1, g1⟩ := B1.ob
      rw [hC] at g1
      refine ⟨_, rfl, κ.p, dx1, _, rfl, g1, B1.fno O (by decide +kernel) (by decide +kernel), _, rfl, ?_⟩
      refine ⟨κ, { S with time := S.time + steps }, t, timesOf S steps, hκ, rfl, B1, ⟨fit.sp1, fit.sp2, fit.pt1, fit.pt2, by show 0 ≤ S.time + steps; have := fit.t0; omega, fit.nd, fit.cs, fit.inj, fit.few⟩, hpos, fun qs H2 fo b2 f2 => ?_⟩
      refine ⟨_, rfl, k (foldF fadeF S.deeds qs t) H2 ?_ ?_ (F1.trans f2)⟩
      · unfold PassT
        rw [if_pos hpos]
        exact ⟨qs, fo, rfl⟩
      · unfold passS
        rw [if_pos hpos]
        exact b2
    · have hneg : ¬ 0 < timesOf S steps := fun z => hneg (decide_eq_true z)
      refine ⟨_, rfl, k t _ ?_ ?_ F1⟩
      · unfold PassT
        rw [if_neg hneg]
      · unfold passS
        rw [if_neg hneg]
        exact B1

/-! ### begin_ask, begin_drop, rest, drop -/
def deedS (S : BS) : BS := { S with deeds := S.deeds + 1 }
theorem Fit.deed {S : BS} (h : Fit S) : Fit (deedS S) := ⟨h.sp1, h.sp2, h.pt1, h.pt2, h.t0, h.nd, h.cs, h.inj, h.few⟩
def spBeginAsk : Sp := fun vs H Q _ => ∃ κ S t n w, 𝒪.is κ ∧ vs = [.ref κ.p, .str n, .int w] ∧ BookAt κ S t H ∧ Fit S ∧ GoodName n ∧ 1 ≤ w ∧ w ≤ 10 ^ 30 ∧ ∀ t' H', PassT fadeF (deedS S) 1 t t' → BookAt κ (passS (deedS S) 1) t' H' → Fr κ H H' → Q .non H'
theorem scBeginAsk : FnScope ["self", "name", "weight"] ["self", "name", "weight"] (defScope sBeginAsk) := ⟨rfl, rfl, rfl, by decide +kernel, rfl, by decide +kernel, by decide +kernel⟩
theorem ok_beginAsk {f gn gw gp : Addr} (F : FunB K "begin_ask" "Book.begin_ask" sBeginAsk f ["self", "name", "weight"]) (T : BTxt K C) (Gn : FnP P w K mg base 2 gn ["name"] spCkName) (hgn : mg "check_name" = some (.ref gn)) (Gw : FnP P w K mg base 2 gw ["weight"] spCkWeight) (hgw : mg "check_weight" = some (.ref gw))
    (Gp : FnP P w K mg base 14 gp ["self", "steps"] (spPassTime 𝒪 fadeF)) (Mp : Meth K C "pass_time" gp) : FnP P w K mg base 16 f ["self", "name", "weight"] (spBeginAsk 𝒪 fadeF) := by
  refine F.ok scBeginAsk (fun vs H Q E h => ?_) (fun cdv A outer s H vs Q E hr h => ?_)
  · obtain ⟨κ, S, t, n, w, _, rfl, _⟩ := h
    rfl
  · obtain ⟨κ, S, t, n, w, hκ, rfl, B0, fit, gn1, w1, w2, k⟩ := h
    have hC := 𝒪.cls κ hκ
    have O := 𝒪.ok κ hκ
    refine ⟨_, pss_cons (ps_expr (pe_callP Gn (hr.mono (by decide)) hgn (pa_cons (pv 1) pa_nil)))
      (pss_cons (ps_expr (pe_callP Gw (hr.mono (by decide)) hgw (pa_cons (pv 2) pa_nil)))
      (pss_cons (ps_fldaug (pv 0) pe_int in_add)
      (pss_one (ps_expr (pe_methP (pv 0) T.cl Mp Gp (hr.mono (by decide)) (pa_cons pe_int pa_nil)))))), ?_⟩
    refine ⟨_, rfl, n, rfl, gn1, fun H1 Sm => ?_⟩
    have B1 := B0.same O Sm
    obtain ⟨dx, h1⟩ := B1.ob
    rw [hC] at h1
    refine ⟨_, rfl, w, rfl, w1, w2, ?_⟩
    refine ⟨_, rfl, κ.p, C, dx, _, _, rfl, h1, T.cl, T.n4, f_deeds, _, _, rfl, rfl, dx, _, h1, f_len (O.exl t), ?_⟩
    have B2 : BookAt κ (deedS S) t (upd H1 κ.p (.ins C dx (putF "deeds" (.int (S.deeds + 1)) (fldsB S κ.dc κ.dl (κ.ex t))))) := by
      rw [f_setDeeds, ← hC]
      exact B1.setOb O rfl
    obtain ⟨dx2, h2⟩ := B2.ob
    rw [hC] at h2
    refine ⟨_, rfl, κ.p, dx2, _, rfl, h2, B2.fno O (by decide +kernel) (by decide +kernel), ?_⟩
    refine ⟨κ, deedS S, t, 1, hκ, rfl, B2, fit.deed, by decide, fun t' H3 pt b3 f3 => ?_⟩
    exact k t' H3 pt b3 (((Fr.of_same Sm).trans (Fr.upd O O.op)).trans f3)
def spRest : Sp := fun vs H Q _ => ∃ κ S t steps, 𝒪.is κ ∧ vs = [.ref κ.p, .int steps] ∧ BookAt κ S t H ∧ Fit S ∧ 0 ≤ steps ∧ steps ≤ 10 ^ 30 ∧ ∀ t' H', PassT fadeF (deedS S) steps t t' → BookAt κ (passS (deedS S) steps) t' H' → Fr κ H H' → Q (.int (timesOf S steps)) H'
theorem scRest : FnScope ["self", "steps"] ["self", "steps"] (defScope sRest) := ⟨rfl, rfl, rfl, by decide +kernel, rfl, by decide +kernel, by decide +kernel⟩
theorem ok_rest {f gs gp : Addr} (F : FunB K "rest" "Book.rest" sRest f ["self", "steps"]) (T : BTxt K C) (Gs : FnP P w K mg base 2 gs ["steps"] spCkSteps) (hgs : mg "check_steps" = some (.ref gs))
    (Gp : FnP P w K mg base 14 gp ["self", "steps"] (spPassTime 𝒪 fadeF)) (Mp : Meth K C "pass_time" gp) : FnP P w K mg base 16 f ["self", "steps"] (spRest 𝒪 fadeF) := by
  refine F.ok scRest (fun vs H Q E h => ?_) (fun cdv A outer s H vs Q E hr h => ?_)
  · obtain ⟨κ, S, t, steps, _, rfl, _⟩ := h
    rfl
  · obtain ⟨κ, S, t, steps, hκ, rfl, B0, fit, s0, s1, k⟩ := h
    have hC := 𝒪.cls κ hκ
    have O := 𝒪.ok κ hκ
    obtain ⟨dx, h1⟩ := B0.ob
    rw [hC] at h1
    refine ⟨_, pss_cons (ps_expr (pe_callP Gs (hr.mono (by decide)) hgs (pa_cons (pv 1) pa_nil)))
      (pss_cons (ps_fldaug (pv 0) pe_int in_add)
      (pss_one (ps_ret (pe_methP (pv 0) T.cl Mp Gp (hr.mono (by decide)) (pa_cons (pv 1) pa_nil))))), ?_⟩
    refine ⟨_, rfl, steps, rfl, s0, s1, ?_⟩
    refine ⟨_, rfl, κ.p, C, dx, _, _, rfl, h1, T.cl, T.n4, f_deeds, _, _, rfl, rfl, dx, _, h1, f_len (O.exl t), ?_⟩
    have B2 : BookAt κ (deedS S) t (upd H κ.p (.ins C dx (putF "deeds" (.int (S.deeds + 1)) (fldsB S κ.dc κ.dl (κ.ex t))))) := by
      rw [f_setDeeds, ← hC]
      exact B0.setOb O rfl
    obtain ⟨dx2, h2⟩ := B2.ob
    rw [hC] at h2
    refine ⟨_, rfl, κ.p, dx2, _, rfl, h2, B2.fno O (by decide +kernel) (by decide +kernel), _, rfl, ?_⟩
    exact ⟨κ, deedS S, t, steps, hκ, rfl, B2, fit.deed, s0, fun t' H3 pt b3 f3 => k t' H3 pt b3 ((Fr.upd O O.op).trans f3)⟩
def spBeginDrop : Sp := fun vs H Q _ => ∃ κ S t n, 𝒪.is κ ∧ vs = [.ref κ.p, .str n] ∧ BookAt κ S t H ∧ GoodName n ∧ ∀ H', BookAt κ (deedS S) t H' → Fr κ H H' → Q .non H'
theorem scBeginDrop : FnScope ["self", "name"] ["self", "name"] (defScope sBeginDrop) := ⟨rfl, rfl, rfl, by decide +kernel, rfl, by decide +kernel, by decide +kernel⟩
theorem ok_beginDrop {f gn : Addr} (F : FunB K "begin_drop" "Book.begin_drop" sBeginDrop f ["self", "name"]) (T : BTxt K C) (Gn : FnP P w K mg base 2 gn ["name"] spCkName) (hgn : mg "check_name" = some (.ref gn)) : FnP P w K mg base 4 f ["self", "name"] (spBeginDrop 𝒪) := by
  refine F.ok scBeginDrop (fun vs H Q E h => ?_) (fun cdv A outer s H vs Q E hr h => ?_)
  · obtain ⟨κ, S, t, n, _, rfl, _⟩ := h
    rfl
  · obtain ⟨κ, S, t, n, hκ, rfl, B0, gn1, k⟩ := h
    have hC := 𝒪.cls κ hκ
    have O := 𝒪.ok κ hκ
    refine ⟨_, pss_cons (ps_expr (pe_callP Gn (hr.mono (by decide)) hgn (pa_cons (pv 1) pa_nil))) (pss_one (ps_fldaug (pv 0) pe_int in_add)), ?_⟩
    refine ⟨_, rfl, n, rfl, gn1, fun H1 Sm => ?_⟩
    have B1 := B0.same O Sm
    obtain ⟨dx, h1⟩ := B1.ob
    rw [hC] at h1
    refine ⟨_, rfl, κ.p, C, dx, _, _, rfl, h1, T.cl, T.n4, f_deeds, _, _, rfl, rfl, dx, _, h1, f_len (O.exl t), ?_⟩
    refine k _ ?_ ((Fr.of_same Sm).trans (Fr.upd O O.op))
    show BookAt κ (deedS S) t (upd H1 κ.p (.ins C dx (putF "deeds" (.int (S.deeds + 1)) (fldsB S κ.dc κ.dl (κ.ex t)))))
    rw [f_setDeeds, ← hC]
    exact B1.setOb O rfl

/-! ### ask -/
def askS (S : BS) (n : Str) (w : Int) : BS := let S1 := passS (deedS S) 1; { S1 with ents := growE S1.ents n w S1.deeds }

/-! ### __init__ -/
def startS (span part : Int) : BS := ⟨span, part, 0, 0, []⟩
def spInit (C : Addr) : Sp := fun vs H Q _ => ∃ (p dx : Addr) (span part : Int), vs = [.ref p, .int span, .int part] ∧ H p = some (.ins C dx []) ∧ 1 ≤ span ∧ span ≤ 10 ^ 20 ∧ 2 ≤ part ∧ part ≤ 10 ^ 30 ∧
  ∀ dc dl H', H dc = none → H dl = none → dc ≠ dl → H' p = some (.ins C dx (fldsB (startS span part) dc dl [])) → H' dc = some (.dK []) → H' dl = some (.dK []) → (∀ b o, H b = some o → b ≠ p → H' b = some o) → Q .non H'
theorem scInit : FnScope ["self", "span", "part"] ["self", "span", "part"] (defScope sInit) := ⟨rfl, rfl, rfl, by decide +kernel, rfl, by decide +kernel, by decide +kernel⟩
theorem ok_init {f g : Addr} (F : FunB K "__init__" "Book.__init__" sInit f ["self", "span", "part"]) (T : BTxt K C) (G : FnP P w K mg base 2 g ["span", "part"] spCkRule) (hg : mg "check_rule" = some (.ref g)) : FnP P w K mg base 4 f ["self", "span", "part"] (spInit C) := by
  refine F.ok scInit (fun vs H Q E h => ?_) (fun cdv A outer s H vs Q E hr h => ?_)
  · obtain ⟨p, dx, span, part, rfl, _⟩ := h
    rfl
  · obtain ⟨p, dx, span, part, rfl, hp, g1, g2, g3, g4, k⟩ := h
    refine ⟨_, pss_cons (ps_expr (pe_callP G (hr.mono (by decide)) hg (pa_cons (pv 1) (pa_cons (pv 2) pa_nil))))
      (pss_cons (ps_fld (pv 0) (pv 1) rfl) (pss_cons (ps_fld (pv 0) (pv 2) rfl) (pss_cons (ps_fld (pv 0) pe_int rfl) (pss_cons (ps_fld (pv 0) pe_int rfl)
      (pss_cons (ps_fld (pv 0) pe_dnewK rfl) (pss_one (ps_fld (pv 0) pe_dnewK rfl))))))), ?_⟩
    refine ⟨_, rfl, _, rfl, span, part, rfl, g1, g2, g3, g4, ?_⟩
    refine ⟨_, rfl, _, rfl, p, C, dx, [], rfl, hp, T.cl, T.n1, (by show 0 < 1000; decide), ?_⟩
    refine ⟨_, rfl, _, rfl, p, C, dx, _, rfl, upd_same, T.cl, T.n2, (by show 1 < 1000; decide), ?_⟩
    refine ⟨_, rfl, p, C, dx, _, rfl, upd_same, T.cl, T.n3, (by show 2 < 1000; decide), ?_⟩
    refine ⟨_, rfl, p, C, dx, _, rfl, upd_same, T.cl, T.n4, (by show 3 < 1000; decide), ?_⟩
    rw [upd_upd, upd_upd, upd_upd]
    intro dc hdc
    have npc : p ≠ dc := ne_of_none upd_same hdc
    refine ⟨_, rfl, p, C, dx, _, rfl, (by rw [upd_ne npc]; exact upd_same), T.cl, T.n5, (by show 4 < 1000; decide), ?_⟩
    intro dl hdl
    have npl : p ≠ dl := ne_of_none upd_same hdl
    have ncl : dc ≠ dl := by
      refine ne_of_none (o := .dK []) ?_ hdl
      rw [upd_ne npc.symm, upd_same]
    refine ⟨_, rfl, p, C, dx, _, rfl, (by rw [upd_ne npl]; exact upd_same), T.cl, T.n6, (by show 5 < 1000; decide), ?_⟩
    have hdc' : H dc = none := by rw [upd_ne npc.symm] at hdc; exact hdc
    have hdl' : H dl = none := by rw [upd_ne npl.symm, upd_ne ncl.symm, upd_ne npl.symm] at hdl; exact hdl
    refine k dc dl _ hdc' hdl' ncl upd_same ?_ ?_ fun b o e hb => ?_
    · rw [upd_ne npc.symm, upd_ne ncl, upd_ne npc.symm, upd_same]
    · rw [upd_ne npl.symm, upd_same]
    · rw [upd_ne hb, upd_ne (ne_of_none e hdl'), upd_ne hb, upd_ne (ne_of_none e hdc'), upd_ne hb]
      exact e
end

/-! ### a book itself -/
section
variable {P : Program} {w : World} {K : PySem.W.Frag} {mg : Str → Option Value} {base : Heap} {C : Addr}
end
end Lk

namespace Lk
open PySem L2
abbrev sCellAt : Stmt := top 21
abbrev sLWhole : Stmt := top 22
abbrev sSign : Stmt := top 23
abbrev sLNames : Stmt := top 24
abbrev sMany : Stmt := top 25
abbrev sSpan : Stmt := top 26
abbrev sPart : Stmt := top 27
abbrev sDeed : Stmt := top 29
abbrev sSteps : Stmt := top 30
abbrev sDo : Stmt := top 31
abbrev sLAged : Stmt := top 32
section
variable {P : Program} {w : World} {K : PySem.W.Frag} {mg : Str → Option Value} {base : Heap}

/-! ### _law_cell_at: some int -/
def spCell (K : PySem.W.Frag) : Sp := fun vs H Q _ => ∃ (a : Addr) (ns : List Int) (k : Nat), vs = [.ref a, .int k] ∧ SqL K H a (ns.map V.int) ∧ ∀ z : Int, Q (.int z) H
theorem scCell : FnScope ["_law_script", "_law_k"] ["_law_script", "_law_k"] (defScope sCellAt) := ⟨rfl, rfl, rfl, by decide +kernel, rfl, by decide +kernel, by decide +kernel⟩
theorem ok_cell {f : Addr} (F : FunB K "_law_cell_at" "_law_cell_at" sCellAt f ["_law_script", "_law_k"]) (B : Blt mg) : FnP P w K mg base 1 f ["_law_script", "_law_k"] (spCell K) := by
  refine F.ok scCell (fun vs H Q E h => ?_) (fun cdv A outer s H vs Q E hr h => ?_)
  · obtain ⟨a, ns, k, rfl, _⟩ := h
    rfl
  · obtain ⟨a, ns, k, rfl, hS, q⟩ := h
    refine ⟨_, pss_cons (ps_if (pt_cmpR op_lt (pv 1) (pe_callB call_len_seq rfl B.len PySem.boot_len (pa_cons (pv 0) pa_nil)) (nomark _)) (pss_one (ps_ret (pe_ix ix_list (pv 0) (pv 1) (fun _ _ => rfl)))) pss_nil) (pss_one (ps_ret pe_int)), ?_⟩
    refine ⟨_, rfl, _, rfl, a, _, rfl, .inl hS, _, _, rfl, rfl, _, rfl, ?_⟩
    refine ite2 (fun hlt => ?_) (fun _ => ?_)
    · have hlt : (k : Int) < ((ns.map V.int).length : Nat) := of_decide_eq_true hlt
      rw [List.length_map] at hlt
      have hk : k < ns.length := by omega
      refine ⟨_, rfl, _, rfl, a, _, k, .int ns[k], rfl, rfl, hS, atI_nat (by simp [hk]), q _⟩
    · exact q 0

/-! ### _law_whole of an int -/
def spLWhole : Sp := fun vs H Q _ => ∃ i : Int, vs = [.int i] ∧ Q (.bl true) H
theorem scLWhole : FnScope ["_law_found"] ["_law_found"] (defScope sLWhole) := ⟨rfl, rfl, rfl, by decide +kernel, rfl, by decide +kernel, by decide +kernel⟩
theorem ok_lwhole {f : Addr} (F : FunB K "_law_whole" "_law_whole" sLWhole f ["_law_found"]) (B : Blt mg) : FnP P w K mg base 1 f ["_law_found"] spLWhole := by
  refine F.ok scLWhole (fun vs H Q E h => ?_) (fun cdv A outer s H vs Q E hr h => ?_)
  · obtain ⟨i, rfl, _⟩ := h
    rfl
  · obtain ⟨i, rfl, q⟩ := h
    refine ⟨_, pss_one (ps_ret (pe_and (pe_isi B.isi B.int (pv 0) PyProof.Rows.boot_int) (pe_one (pe_not (pe_isi B.isi B.bool (pv 0) PyProof.Rows.boot_bool))))), ?_⟩
    refine ⟨_, rfl, _, "int", _, _, rfl, .int i, kit_ii K, _, rfl, ?_⟩
    rw [if_pos rfl]
    exact ⟨_, rfl, _, "bool", _, _, rfl, .int i, kit_ib K, _, rfl, q⟩

/-! ### _law_sign: a sign -/
theorem scSign : FnScope ["_law_number", "_law_some"] ["_law_number"] (defScope sSign) := ⟨rfl, rfl, rfl, by decide +kernel, rfl, by decide +kernel, by decide +kernel⟩

/-! ### _law_many, _law_span, _law_part -/
def spBetween (lo hi : Int) : Sp := fun vs H Q _ => ∃ i : Int, vs = [.int i] ∧ ∀ z : Int, lo ≤ z → z ≤ hi → Q (.int z) H
theorem scMany : FnScope ["_law_cell"] ["_law_cell"] (defScope sMany) := ⟨rfl, rfl, rfl, by decide +kernel, rfl, by decide +kernel, by decide +kernel⟩
theorem ok_many {f : Addr} (F : FunB K "_law_many" "_law_many" sMany f ["_law_cell"]) : FnP P w K mg base 1 f ["_law_cell"] (spBetween 1 30) := by
  refine F.ok scMany (fun vs H Q E h => ?_) (fun cdv A outer s H vs Q E hr h => ?_)
  · obtain ⟨i, rfl, _⟩ := h
    rfl
  · obtain ⟨i, rfl, q⟩ := h
    refine ⟨_, pss_cons (ps_if (pt_cmpR op_eq (pe_op op_mod (pv 0) pe_int) pe_int (nomark _)) (pss_one (ps_ret (pe_op op_add pe_int (pe_op op_mod (pe_op op_fdiv (pv 0) pe_int) pe_int)))) pss_nil)
      (pss_one (ps_ret (pe_op op_add pe_int (pe_op op_mod (pe_op op_fdiv (pv 0) pe_int) pe_int)))), ?_⟩
    refine ⟨_, rfl, _, _, rfl, rfl, (by show (0 : Int) < 4; decide), rfl, _, rfl, ?_⟩
    refine ite2 (fun _ => ?_) (fun _ => ?_)
    · exact ⟨_, rfl, _, _, rfl, rfl, ⟨by decide, by decide⟩, _, _, rfl, rfl, (by first | (show (0 : Int) < 30; decide) | (show (0 : Int) < 16; decide)), _, _, rfl, rfl, q _ (by omega) (by omega)⟩
    · exact ⟨_, rfl, _, _, rfl, rfl, ⟨by decide, by decide⟩, _, _, rfl, rfl, (by show (0 : Int) < 8; decide), _, _, rfl, rfl, q _ (by omega) (by omega)⟩
theorem scSpan : FnScope ["_law_cell"] ["_law_cell"] (defScope sSpan) := ⟨rfl, rfl, rfl, by decide +kernel, rfl, by decide +kernel, by decide +kernel⟩
theorem ok_span {f : Addr} (F : FunB K "_law_span" "_law_span" sSpan f ["_law_cell"]) : FnP P w K mg base 1 f ["_law_cell"] (spBetween 1 (10 ^ 20)) := by
  refine F.ok scSpan (fun vs H Q E h => ?_) (fun cdv A outer s H vs Q E hr h => ?_)
  · obtain ⟨i, rfl, _⟩ := h
    rfl
  · obtain ⟨i, rfl, q⟩ := h
    refine ⟨_, pss_cons (ps_if (pt_cmpR op_eq (pe_op op_mod (pv 0) pe_int) pe_int (nomark _)) (pss_one (ps_ret (pe_op op_add pe_int (pe_op op_mod (pe_op op_fdiv (pv 0) pe_int) (pe_op op_pow pe_int pe_int))))) pss_nil)
      (pss_one (ps_ret (pe_op op_add pe_int (pe_op op_mod (pe_op op_fdiv (pv 0) pe_int) pe_int)))), ?_⟩
    refine ⟨_, rfl, _, _, rfl, rfl, (by show (0 : Int) < 4; decide), rfl, _, rfl, ?_⟩
    refine ite2 (fun _ => ?_) (fun _ => ?_)
    · refine ⟨_, rfl, _, _, rfl, rfl, ⟨by decide, by decide⟩, _, _, rfl, rfl, pow_ok _ (by decide) (by decide), _, _, rfl, rfl, (by show (0 : Int) < 10 ^ Int.toNat 20; decide), _, _, rfl, rfl, ?_⟩
      rw [p20]
      exact q _ (by omega) (by omega)
    · exact ⟨_, rfl, _, _, rfl, rfl, ⟨by decide, by decide⟩, _, _, rfl, rfl, (by show (0 : Int) < 12; decide), _, _, rfl, rfl, q _ (by omega) (by omega)⟩
theorem scPart : FnScope ["_law_cell"] ["_law_cell"] (defScope sPart) := ⟨rfl, rfl, rfl, by decide +kernel, rfl, by decide +kernel, by decide +kernel⟩
theorem ok_part {f : Addr} (F : FunB K "_law_part" "_law_part" sPart f ["_law_cell"]) : FnP P w K mg base 1 f ["_law_cell"] (spBetween 2 (10 ^ 30)) := by
  refine F.ok scPart (fun vs H Q E h => ?_) (fun cdv A outer s H vs Q E hr h => ?_)
  · obtain ⟨i, rfl, _⟩ := h
    rfl
  · obtain ⟨i, rfl, q⟩ := h
    refine ⟨_, pss_cons (ps_if (pt_cmpR op_eq (pe_op op_mod (pv 0) pe_int) pe_int (nomark _)) (pss_one (ps_ret (pe_op op_add pe_int (pe_op op_mod (pe_op op_fdiv (pv 0) pe_int) (pe_op op_sub (pe_op op_pow pe_int pe_int) pe_int))))) pss_nil)
      (pss_one (ps_ret (pe_op op_add pe_int (pe_op op_mod (pe_op op_fdiv (pv 0) pe_int) pe_int)))), ?_⟩
    refine ⟨_, rfl, _, _, rfl, rfl, (by show (0 : Int) < 5; decide), rfl, _, rfl, ?_⟩
    refine ite2 (fun _ => ?_) (fun _ => ?_)
    · refine ⟨_, rfl, _, _, rfl, rfl, ⟨by decide, by decide⟩, _, _, rfl, rfl, pow_ok _ (by decide) (by decide), _, _, rfl, rfl, _, _, rfl, rfl, (by show (0 : Int) < 10 ^ Int.toNat 30 - 1; decide), _, _, rfl, rfl, ?_⟩
      rw [p30]
      exact q _ (by omega) (by omega)
    · exact ⟨_, rfl, _, _, rfl, rfl, ⟨by decide, by decide⟩, _, _, rfl, rfl, (by show (0 : Int) < 3; decide), _, _, rfl, rfl, q _ (by omega) (by omega)⟩
end
end Lk

namespace Lk
open PySem L2

/-! ### texts of signs -/
def Signs (x : Str) : Prop := ∀ c ∈ x.cps.toList, 32 ≤ c ∧ c ≤ 126
theorem signs_app {a b : Str} (ha : Signs a) (hb : Signs b) : Signs (a ++ b) := by
  intro c hc
  rw [PySem.Str.cps_append, Array.toList_append, List.mem_append] at hc
  rcases hc with hc | hc
  · exact ha c hc
  · exact hb c hc
theorem signs_one {c : Nat} (h : 32 ≤ c) (h2 : c ≤ 126) : Signs ⟨#[c]⟩ := by
  intro d hd
  have : d = c := by simpa using hd
  omega
theorem signs_empty : Signs ("" : Str) := by
  intro c hc
  rw [show ("" : Str).cps.toList = [] by decide] at hc
  simp at hc
theorem signs_joined : ∀ l : List Str, (∀ a ∈ l, Signs a) → Signs (PySem.Str.join ("" : Str) l)
  | [], _ => by
    intro c hc
    have e : (PySem.Str.join ("" : Str) []).cps.toList = [] := rfl
    rw [e] at hc
    simp at hc
  | [x], h => h x List.mem_cons_self
  | x :: y :: r, h => by
    show Signs (x ++ ("" : Str) ++ PySem.Str.join ("" : Str) (y :: r))
    exact signs_app (signs_app (h x List.mem_cons_self) signs_empty) (signs_joined (y :: r) fun a ha => h a (List.mem_cons_of_mem _ ha))
theorem signs_join {l : List Str} (h : ∀ a ∈ l, Signs a) : Signs (Txt.join ("" : Str) l) := by
  show Signs (Builtin.Str.glued ("" : Str) l)
  rw [StrLaws.glued_eq_join]
  exact signs_joined l h
theorem len_sum_ones {l : List Str} (h : ∀ a ∈ l, a.length = 1) : (l.map (·.length)).sum = l.length := by
  induction l with
  | nil => rfl
  | cons a r ih =>
    rw [List.map_cons, List.sum_cons, h a List.mem_cons_self, ih fun b hb => h b (List.mem_cons_of_mem _ hb), List.length_cons]
    omega
theorem slice_to {x : Str} {j : Int} (h0 : 0 ≤ j) (h2 : j ≤ x.length) : (Txt.slice x none (some j)).cps.toList = x.cps.toList.take j.toNat := by
  have := eq_of_beq (PyProof.Rows.slice_closes_toL h0 h2)
  rw [this]
  simp
theorem slice_from {x : Str} {i : Int} (h0 : 0 ≤ i) (h2 : i ≤ x.length) : (Txt.slice x (some i) none).cps.toList = x.cps.toList.drop i.toNat := by
  rw [PyProof.Rows.slice_from_eq h0 h2 rfl]
  simp only [List.toList_toArray]
  rw [List.take_of_length_le]
  rw [List.length_drop, Array.length_toList]
  show x.length - i.toNat ≤ _
  omega
theorem length_list (x : Str) : x.length = x.cps.toList.length := by simp [Str.length]
theorem signs_slice_to {x : Str} {j : Int} (h0 : 0 ≤ j) (h2 : j ≤ x.length) (h : Signs x) : Signs (Txt.slice x none (some j)) ∧ (Txt.slice x none (some j)).length = j.toNat := by
  have e := slice_to h0 h2
  refine ⟨fun c hc => h c (List.mem_of_mem_take (by rw [← e]; exact hc)), ?_⟩
  rw [length_list, e, List.length_take, ← length_list]
  omega
theorem signs_slice_from {x : Str} {i : Int} (h0 : 0 ≤ i) (h2 : i ≤ x.length) (h : Signs x) : Signs (Txt.slice x (some i) none) ∧ (Txt.slice x (some i) none).length = x.length - i.toNat := by
  have e := slice_from h0 h2
  refine ⟨fun c hc => h c (List.mem_of_mem_drop (by rw [← e]; exact hc)), ?_⟩
  rw [length_list, e, List.length_drop, ← length_list]

/-! ### the signs -/
def SG : List Nat := (List.range' 32 95).filter (· ≠ 37)
def sgn (i : Int) : Nat := SG.getD (i % 94).toNat 0
theorem SG_len : SG.length = 94 := by decide +kernel
theorem SG_nd : SG.Nodup := by decide +kernel
theorem sgn_inj {i j : Int} (h : sgn i = sgn j) : i % 94 = j % 94 := by
  have hl := SG_len
  have h1 : (i % 94).toNat < SG.length := by omega
  have h2 : (j % 94).toNat < SG.length := by omega
  unfold sgn at h
  rw [List.getD_eq_getElem?_getD, List.getD_eq_getElem?_getD, List.getElem?_eq_getElem h1, List.getElem?_eq_getElem h2] at h
  have h : SG[(i % 94).toNat] = SG[(j % 94).toNat] := h
  have : (i % 94).toNat = (j % 94).toNat := by
    rcases Nat.lt_trichotomy (i % 94).toNat (j % 94).toNat with q | q | q
    · exact absurd h (List.pairwise_iff_getElem.mp SG_nd _ _ h1 h2 q)
    · exact q
    · exact absurd h.symm (List.pairwise_iff_getElem.mp SG_nd _ _ h2 h1 q)
  omega
theorem one_inj {a b : Str} {c d : Nat} (h : a ++ ⟨#[c]⟩ ++ b = a ++ ⟨#[d]⟩ ++ b) : c = d := by
  have := congrArg (fun s : Str => s.cps.toList) h
  simp only [PySem.Str.cps_append, Array.toList_append] at this
  have := List.append_cancel_left (List.append_cancel_right this)
  simpa using this
theorem nodup_of_len {ns : List Str} {m : Nat} (h : ns.map (·.length) = (List.range m).map (1 + ·)) : ns.Nodup := by
  have : (ns.map (·.length)).Nodup := by
    rw [h]
    exact List.pairwise_map.mpr (List.nodup_range.imp fun h e => h (by omega))
  exact (List.pairwise_map.mp this).imp fun z e => z (by rw [e])
theorem nodup_of_at {a b : Str} {c st : Int} (hs : st = 1 ∨ st = 32) {m : Nat} (hm : m ≤ 30) : ((List.range m).map fun j => a ++ ⟨#[sgn (c + st * (0 + (j : Int)))]⟩ ++ b).Nodup := by
  rw [List.Nodup, List.pairwise_map]
  refine List.Pairwise.imp_of_mem ?_ (List.nodup_range (n := m))
  intro i j hi hj hne e
  have hi := List.mem_range.mp hi
  have hj := List.mem_range.mp hj
  have := sgn_inj (one_inj e)
  rcases hs with rfl | rfl <;> omega
section
variable {P : Program} {w : World} {K : PySem.W.Frag} {mg : Str → Option Value} {base : Heap}
def spSign6 : Sp := fun vs H Q _ => ∃ i : Int, vs = [.int i] ∧ ∀ c : Nat, 32 ≤ c → c ≤ 126 → c = sgn i → Q (.str ⟨#[c]⟩) H
theorem signs_get6 {z : Str} {i : Int} {G : Prop} (h : ∀ c, atI z.cps.toList (i % 94) = some c → 32 ≤ c → c ≤ 126 → c = sgn i → G) (hz : z.cps.toList = SG) (ha : (SG.all fun c => decide (32 ≤ c ∧ c ≤ 126)) = true) : G := by
  have hl := SG_len
  obtain ⟨k, ek⟩ := Int.eq_ofNat_of_zero_le (show 0 ≤ i % 94 by omega)
  have hk : k < SG.length := by omega
  have := of_decide_eq_true (List.all_eq_true.mp ha _ (List.getElem_mem hk))
  refine h SG[k] ?_ this.1 this.2 ?_
  · rw [hz, ek]
    exact atI_nat (by simp [hk])
  · unfold sgn
    rw [ek, Int.toNat_natCast, List.getD_eq_getElem?_getD, List.getElem?_eq_getElem hk]
    rfl
theorem ok_sign6 {f : Addr} (F : FunB K "_law_sign" "_law_sign" sSign f ["_law_number"]) : FnP P w K mg base 1 f ["_law_number"] spSign6 := by
  refine F.ok scSign (fun vs H Q E h => ?_) (fun cdv A outer s H vs Q E hr h => ?_)
  · obtain ⟨i, rfl, _⟩ := h
    rfl
  · obtain ⟨i, rfl, q⟩ := h
    refine ⟨_, pss_cons (ps_set (i := 1) scSign.nd rfl (Or.inl rfl) pe_str) (pss_cons (ps_set (i := 1) scSign.nd rfl (Or.inl rfl) (pe_op op_add_str (pv 1) pe_str)) (pss_one (ps_ret (pe_ix ix_str (pv 1) (pe_op op_mod (pv 0) pe_int) (fun _ _ => rfl))))), ?_⟩
    refine ⟨_, rfl, _, _, rfl, rfl, by decide +kernel, ?_⟩
    exact signs_get6 (i := i) (fun c hc c1 c2 c3 => ⟨_, rfl, _, rfl, _, _, rfl, rfl, (by show (0 : Int) < 94; decide), _, _, c, rfl, rfl, by decide +kernel, hc, q c c1 c2 c3⟩) (by decide +kernel) (by decide +kernel)
def spLNames : Sp := fun vs H Q _ => ∃ (c : Int) (m : Nat), vs = [.int c, .int m] ∧ 1 ≤ m ∧ m ≤ 30 ∧ ∀ l H' (ns : List Str), H l = none → Same H H' → H' l = some (.lst (ns.map V.str)) → ns.length = m → (∀ n ∈ ns, GoodName n) → ns.Nodup → Q (.ref l) H'
theorem scLNames : FnScope ["_law_cell", "_law_many_here", "_law_size", "_law_base", "_law_at", "_law_step"] ["_law_cell", "_law_many_here"] (defScope sLNames) := ⟨rfl, rfl, rfl, by decide +kernel, rfl, by decide +kernel, by decide +kernel⟩
theorem mulL {a b : Int} (h0 : 0 ≤ a) (h1 : a ≤ 10 ^ 18) : CMul a b := .inl ⟨by omega, by omega⟩
theorem mulR {a b : Int} (h0 : 0 ≤ b) (h1 : b ≤ 10 ^ 18) : CMul a b := .inr ⟨by omega, by omega⟩

set_option maxHeartbeats 4000000 in
theorem ok_lnames {f g : Addr} (F : FunB K "_law_names" "_law_names" sLNames f ["_law_cell", "_law_many_here"]) (B : Blt mg) (G : FnP P w K mg base 1 g ["_law_number"] spSign6) (hg : mg "_law_sign" = some (.ref g)) : FnP P w K mg base 3 f ["_law_cell", "_law_many_here"] spLNames := by
  refine F.ok scLNames (fun vs H Q E h => ?_) (fun cdv A outer s H vs Q E hr h => ?_)
  · obtain ⟨c, m, rfl, _⟩ := h
    rfl
  · obtain ⟨c, m, rfl, m1, m2, k⟩ := h
    have hr1 : Room 1 _ := hr.mono (by decide)
    refine ⟨_, (pss_cons (ps_set (i := 0) scLNames.nd rfl (Or.inr rfl) (pe_op op_mod.letter (pv 0) pe_int))
      (pss_cons (ps_set (i := 2) scLNames.nd rfl (Or.inl rfl) (pe_op op_add.letter0 pe_int (pe_op op_mod (pe_op op_fdiv (pv 0) pe_int) pe_int)))
      (pss_cons (ps_if (pt_cmpR op_eq (pe_op op_mod (pe_op op_fdiv (pv 0) pe_int) pe_int) pe_int (nomark _)) (pss_one (ps_set (i := 2) scLNames.nd rfl (Or.inl rfl) (pe_op op_add.letter0 pe_int (pe_op op_mod (pe_op op_fdiv (pv 0) pe_int) pe_int)))) pss_nil)
      (pss_cons (ps_if (pt_cmpR op_eq (pe_op op_mod (pv 0) pe_int) pe_int (nomark _)) (pss_cons (ps_set (i := 3) scLNames.nd rfl (Or.inr rfl) (pe_bm PySem.F.plainAttrs_str PySem.F.slot_str_join PySem.F.type_str_join mt_join pe_str (pa_cons (pe_lc (N' := ["_law_j", "_law_cell"]) (cap := [none, some 0]) rfl rfl (pi_range1 rfl B.range (pa_cons pe_int pa_nil)) (fun _ _ _ _ _ => (pg_name (i := 0) (by decide +kernel : (["_law_j", "_law_cell"] : List Str).Nodup) rfl (Or.inl rfl))) (fun _ _ _ _ _ => pts_nil)
        (fun _ _ _ _ _ => (pe_callP G hr1 hg (pa_cons (pe_op op_add (pe_op op_mul (pv 1) (pe_op op_add (pv 0) pe_int)) (pe_op op_mul (pe_op op_mul pe_int (pv 0)) (pv 0))) pa_nil)))) pa_nil)))
      (pss_one (ps_ret (pe_lc (N' := ["_law_k", "_law_base"]) (cap := [none, some 3]) rfl rfl (pi_range1 rfl B.range (pa_cons (pv 1) pa_nil)) (fun _ _ _ _ _ => (pg_name (i := 0) (by decide +kernel : (["_law_k", "_law_base"] : List Str).Nodup) rfl (Or.inl rfl))) (fun _ _ _ _ _ => pts_nil)
        (fun _ _ _ _ _ => pe_slice sl_str (pv 1) po_none (po_some (pe_op op_add pe_int (pv 0)))))))) pss_nil)
      (pss_cons (ps_set (i := 4) scLNames.nd rfl (Or.inr rfl) (pe_op op_mod.letter (pe_op op_fdiv (pv 0) pe_int) (pv 2)))
      (pss_cons (ps_set (i := 5) scLNames.nd rfl (Or.inr rfl) (pe_op op_add.letter0 pe_int (pe_op op_mul pe_int (pe_op op_mod (pe_op op_fdiv (pv 0) pe_int) pe_int))))
      (pss_cons (ps_set (i := 3) scLNames.nd rfl (Or.inr rfl) (pe_bm PySem.F.plainAttrs_str PySem.F.slot_str_join PySem.F.type_str_join mt_join pe_str (pa_cons (pe_lc (N' := ["_law_j", "_law_cell"]) (cap := [none, some 0]) rfl rfl (pi_range1 rfl B.range (pa_cons (pv 2) pa_nil)) (fun _ _ _ _ _ => (pg_name (i := 0) (by decide +kernel : (["_law_j", "_law_cell"] : List Str).Nodup) rfl (Or.inl rfl))) (fun _ _ _ _ _ => pts_nil)
        (fun _ _ _ _ _ => (pe_callP G hr1 hg (pa_cons (pe_op op_add (pe_op op_mul (pv 1) (pe_op op_add (pe_op op_fdiv (pv 0) pe_int) pe_int)) (pe_op op_mul pe_int (pv 0))) pa_nil)))) pa_nil)))
      (pss_one (ps_ret (pe_lc (N' := ["_law_k", "_law_base", "_law_at", "_law_cell", "_law_step"]) (cap := [none, some 3, some 4, some 0, some 5]) rfl rfl (pi_range1 rfl B.range (pa_cons (pv 1) pa_nil)) (fun _ _ _ _ _ => (pg_name (i := 0) (by decide +kernel : (["_law_k", "_law_base", "_law_at", "_law_cell", "_law_step"] : List Str).Nodup) rfl (Or.inl rfl))) (fun _ _ _ _ _ => pts_nil)
        (fun _ _ _ _ _ => (pe_op op_add_str (pe_op op_add_str (pe_slice sl_str (pv 1) po_none (po_some (pv 2))) (pe_callP G hr1 hg (pa_cons (pe_op op_add (pv 3) (pe_op op_mul (pv 4) (pv 0))) pa_nil))) (pe_slice sl_str (pv 1) (po_some (pe_op op_add (pv 2) pe_int)) po_none))))))))))))), ?_⟩
    -- READ
    refine ⟨_, rfl, _, _, rfl, rfl, (by show (0 : Int) < 1000003; decide), fun c' hc' => ?_⟩
    have c1 : 0 ≤ c' := by omega
    have c2 : c' < 1000003 := by omega
    clear hc'
    refine ⟨_, rfl, _, _, rfl, rfl, ⟨by decide, by decide⟩, _, _, rfl, rfl, (by show (0 : Int) < 6; decide), _, _, rfl, rfl, fun sz hsz => ?_⟩
    have hs : 1 ≤ sz ∧ sz ≤ 40 := by omega
    clear hsz
    refine ⟨_, rfl, _, _, rfl, rfl, ⟨by decide, by decide⟩, _, _, rfl, rfl, (by show (0 : Int) < 4; decide), rfl, _, rfl, ?_⟩
    refine ite2 (fun h40 => ⟨_, rfl, _, _, rfl, rfl, ⟨by decide, by decide⟩, _, _, rfl, rfl, (by show (0 : Int) < 40; decide), _, _, rfl, rfl, fun sz hsz => ?_⟩) (fun h6 => ?_)
    all_goals
      have hs : 1 ≤ sz ∧ sz ≤ 40 := by omega
      obtain ⟨z1, z2⟩ := hs
      refine ⟨_, rfl, _, _, rfl, rfl, (by show (0 : Int) < 3; decide), rfl, _, rfl, ?_⟩
      refine ite2 (fun _ => ?_) (fun _ => ?_)
      · -- beginnings of one text
        refine ⟨rfl, 40, rfl, by decide, by decide, ?_⟩
        refine lc_go 40 (fun i ys σ' H' => ∃ zs : List Str, ys = zs.map V.str ∧ zs.length = i ∧ (∀ z ∈ zs, Signs z ∧ z.length = 1) ∧ H' = H ∧ ∃ v, σ' = [v, some (.int c')]) ⟨[], rfl, rfl, by simp, rfl, none, rfl⟩ (by decide) (fun i ys σ' H' hi _ => hi) (fun _ _ _ _ => Nat.le_refl _) ?_ ?_
        · rintro i ys σ' H' x H2 hi hl ⟨zs, rfl, hz, hg1, rfl, v, rfl⟩ ⟨rfl, rfl⟩
          refine ⟨_, rfl, _, rfl, _, _, rfl, rfl, _, _, rfl, rfl, mulL c1 (by omega), _, rfl, _, _, rfl, rfl, mulL (by decide) (by decide), _, rfl, _, _, rfl, rfl, mulR (by omega) (by omega), _, _, rfl, rfl, _, rfl, fun ch h1 h2 h3 => ?_⟩
          refine lcYes hi hl (by decide) ⟨zs ++ [⟨#[ch]⟩], by rw [List.map_append]; rfl, by rw [List.length_append, hz]; rfl, fun z hz2 => ?_, rfl, _, rfl⟩
          rcases List.mem_append.mp hz2 with q | q
          · exact hg1 z q
          · rw [List.mem_singleton.mp q]; exact ⟨signs_one h1 h2, rfl⟩
        · rintro ys σ' H' ⟨zs, rfl, hz, hg1, rfl, v, rfl⟩ p hp
          refine ⟨_, p, zs, rfl, rfl, SqL.of upd_same, ?_, ?_⟩
          · rw [len_sum_ones fun a ha => (hg1 a ha).2, hz]; decide
          have hb1 : Signs (Txt.join ("" : Str) zs) := signs_join fun a ha => (hg1 a ha).1
          have hb2 : (Txt.join ("" : Str) zs).length = 40 := by rw [PySem.W.KT.join_ones _ fun a ha => (hg1 a ha).2, hz]
          generalize Txt.join ("" : Str) zs = bs at hb1 hb2 ⊢
          have Sm := Same.upd (o := .lst (zs.map V.str)) hp
          generalize upd H' p (.lst (zs.map V.str)) = H1 at Sm ⊢
          refine ⟨_, rfl, m, rfl, by omega, by omega, ?_⟩
          refine lc_go m (fun i ys σ' H2 => ∃ ns : List Str, ys = ns.map V.str ∧ ns.length = i ∧ (∀ n ∈ ns, GoodName n) ∧ ns.map (·.length) = (List.range i).map (1 + ·) ∧ H2 = H1 ∧ ∃ v, σ' = [v, some (.str bs)]) ⟨[], rfl, rfl, by simp, rfl, rfl, none, rfl⟩ (Nat.le_trans m2 (by decide)) (fun i ys σ' H' hi _ => hi) (fun _ _ _ _ => Nat.le_refl _) ?_ ?_
          · rintro i ys σ' H3 x H4 hi hl ⟨ns, rfl, hn, hgn, hml, rfl, v, rfl⟩ ⟨rfl, rfl⟩
            refine ⟨_, rfl, _, rfl, _, _, rfl, rfl, _, rfl, bs, rfl, by rw [hb2]; decide, ?_⟩
            obtain ⟨s1, s2⟩ := signs_slice_to (x := bs) (j := 1 + (0 + i)) (by omega) (by omega) hb1
            refine lcYes hi hl (Nat.le_trans m2 (by decide)) ⟨ns ++ [Txt.slice bs none (some (1 + (0 + i)))], by rw [List.map_append]; rfl, by rw [List.length_append, hn]; rfl, fun z hz2 => ?_, by rw [List.map_append, hml, List.range_succ, List.map_append, List.map_singleton, s2, List.map_singleton, show (1 + (0 + (i : Int))).toNat = 1 + i by omega], rfl, _, rfl⟩
            rcases List.mem_append.mp hz2 with q | q
            · exact hgn z q
            · rw [List.mem_singleton.mp q]; exact ⟨by omega, by omega, s1⟩
          · rintro ys σ' H3 ⟨ns, rfl, hn, hgn, hml, rfl, v, rfl⟩ q hq
            exact k q _ ns (Sm.free hq) (Sm.trans (Same.upd hq)) upd_same hn hgn (nodup_of_len hml)
      · -- alike but at one place
        refine ⟨_, rfl, _, _, rfl, rfl, ⟨by decide, by decide⟩, _, rfl, _, _, rfl, rfl, (by show (0 : Int) < _; omega), fun at_ hat' => ?_⟩
        have hat : 0 ≤ at_ ∧ at_ < sz := by rw [hat']; exact ⟨Int.emod_nonneg _ (by omega), Int.emod_lt_of_pos _ (by omega)⟩
        clear hat'
        refine ⟨_, rfl, _, _, rfl, rfl, ⟨by decide, by decide⟩, _, _, rfl, rfl, (by show (0 : Int) < 2; decide), _, _, rfl, rfl, mulL (by decide) (by decide), _, _, rfl, rfl, fun st hst' => ?_⟩
        have hst : 0 ≤ st ∧ st ≤ 32 := by omega
        have hst2 : st = 1 ∨ st = 32 := by omega
        clear hst'
        refine ⟨rfl, _, rfl, sz, rfl, by omega, by omega, ?_⟩
        refine lc_go sz.toNat (fun i ys σ' H' => ∃ zs : List Str, ys = zs.map V.str ∧ zs.length = i ∧ (∀ z ∈ zs, Signs z ∧ z.length = 1) ∧ H' = H ∧ ∃ v, σ' = [v, some (.int c')]) ⟨[], rfl, rfl, by simp, rfl, none, rfl⟩ (Nat.le_trans (show sz.toNat ≤ 40 by omega) (by decide)) (fun i ys σ' H' hi _ => hi) (fun _ _ _ _ => Nat.le_refl _) ?_ ?_
        · rintro i ys σ' H' x H2 hi hl ⟨zs, rfl, hz, hg1, rfl, v, rfl⟩ ⟨rfl, rfl⟩
          refine ⟨_, rfl, _, rfl, _, _, rfl, rfl, ⟨by decide, by decide⟩, _, _, rfl, rfl, _, _, rfl, rfl, mulL c1 (by omega), _, rfl, _, _, rfl, rfl, mulL (by decide) (by decide), _, _, rfl, rfl, _, rfl, fun ch h1 h2 h3 => ?_⟩
          refine lcYes hi hl (Nat.le_trans (show sz.toNat ≤ 40 by omega) (by decide)) ⟨zs ++ [⟨#[ch]⟩], by rw [List.map_append]; rfl, by rw [List.length_append, hz]; rfl, fun z hz2 => ?_, rfl, _, rfl⟩
          rcases List.mem_append.mp hz2 with q | q
          · exact hg1 z q
          · rw [List.mem_singleton.mp q]; exact ⟨signs_one h1 h2, rfl⟩
        · rintro ys σ' H' ⟨zs, rfl, hz, hg1, rfl, v, rfl⟩ p hp
          refine ⟨_, p, zs, rfl, rfl, SqL.of upd_same, ?_, ?_⟩
          · rw [len_sum_ones fun a ha => (hg1 a ha).2, hz]
            show sz.toNat + zs.length * 0 ≤ 16777216
            omega
          have hb1 : Signs (Txt.join ("" : Str) zs) := signs_join fun a ha => (hg1 a ha).1
          have hb2 : ((Txt.join ("" : Str) zs).length : Int) = sz := by rw [PySem.W.KT.join_ones _ fun a ha => (hg1 a ha).2, hz]; omega
          generalize Txt.join ("" : Str) zs = bs at hb1 hb2 ⊢
          have Sm := Same.upd (o := .lst (zs.map V.str)) hp
          generalize upd H' p (.lst (zs.map V.str)) = H1 at Sm ⊢
          have hbl : bs.length ≤ sizeLine := Nat.le_trans (show bs.length ≤ 40 by omega) (by decide)
          refine ⟨_, rfl, m, rfl, by omega, by omega, ?_⟩
          refine lc_go m (fun i ys σ' H2 => ∃ ns : List Str, ys = ns.map V.str ∧ ns.length = i ∧ (∀ n ∈ ns, GoodName n) ∧ (ns = (List.range i).map fun j => Txt.slice bs none (some at_) ++ ⟨#[sgn (c' + st * (0 + (j : Int)))]⟩ ++ Txt.slice bs (some (at_ + 1)) none) ∧ H2 = H1 ∧ ∃ v, σ' = [v, some (.str bs), some (.int at_), some (.int c'), some (.int st)]) ⟨[], rfl, rfl, by simp, rfl, rfl, none, rfl⟩ (Nat.le_trans m2 (by decide)) (fun i ys σ' H' hi _ => hi) (fun _ _ _ _ => Nat.le_refl _) ?_ ?_
          · rintro i ys σ' H3 x H4 hi hl ⟨ns, rfl, hn, hgn, hml, rfl, v, rfl⟩ ⟨rfl, rfl⟩
            obtain ⟨s1, s2⟩ := signs_slice_to (x := bs) (j := at_) (by omega) (by omega) hb1
            obtain ⟨u1, u2⟩ := signs_slice_from (x := bs) (i := at_ + 1) (by omega) (by omega) hb1
            refine ⟨_, rfl, _, rfl, _, rfl, bs, rfl, hbl, _, rfl, _, rfl, _, rfl, _, _, rfl, rfl, mulL (by omega) (by omega), _, _, rfl, rfl, _, rfl, fun ch h1 h2 h3 => ?_⟩
            refine ⟨_, _, rfl, rfl, Nat.le_trans (show (Txt.slice bs none (some at_)).length + 1 ≤ 41 by omega) (by decide), _, rfl, _, rfl, _, _, rfl, rfl, _, rfl, bs, rfl, hbl, _, _, rfl, rfl, ?_, ?_⟩
            · rw [PySem.Str.length_append, s2, u2]
              exact Nat.le_trans (show at_.toNat + 1 + (bs.length - (at_ + 1).toNat) ≤ 41 by omega) (by decide)
            · refine lcYes hi hl (Nat.le_trans m2 (by decide)) ⟨ns ++ [Txt.slice bs none (some at_) ++ ⟨#[ch]⟩ ++ Txt.slice bs (some (at_ + 1)) none], by rw [List.map_append]; rfl, by rw [List.length_append, hn]; rfl, fun z hz2 => ?_, by rw [List.range_succ, List.map_append, ← hml, List.map_singleton, h3], rfl, _, rfl⟩
              rcases List.mem_append.mp hz2 with q | q
              · exact hgn z q
              · rw [List.mem_singleton.mp q]
                refine ⟨?_, ?_, signs_app (signs_app s1 (signs_one h1 h2)) u1⟩
                · rw [PySem.Str.length_append, PySem.Str.length_append, s2, u2]
                  show 1 ≤ at_.toNat + 1 + _
                  omega
                · rw [PySem.Str.length_append, PySem.Str.length_append, s2, u2]
                  show at_.toNat + 1 + (bs.length - (at_ + 1).toNat) ≤ 40
                  omega
          · rintro ys σ' H3 ⟨ns, rfl, hn, hgn, hml, rfl, v, rfl⟩ q hq
            exact k q _ ns (Sm.free hq) (Sm.trans (Same.upd hq)) upd_same hn hgn (by rw [hml]; exact nodup_of_at hst2 m2)
end
end Lk

namespace Lk
open PySem L2
inductive Dd where
  | ask (n : Str) (w : Int) | rest (k : Int) | drop (n : Str)
def Dd.v : Dd → List V
  | .ask n w => [.str "ask", .str n, .int w]
  | .rest k => [.str "rest", .str "", .int k]
  | .drop n => [.str "drop", .str n, .int 0]
def GoodD (ns : List Str) : Dd → Prop
  | .ask n w => n ∈ ns ∧ 1 ≤ w ∧ w ≤ 10 ^ 30
  | .rest k => 0 ≤ k ∧ k ≤ 10 ^ 30
  | .drop n => n ∈ ns
def Dd.steps : Dd → Int
  | .ask _ _ => 1
  | .rest k => k
  | .drop _ => 0
section
variable {P : Program} {w : World} {K : PySem.W.Frag} {mg : Str → Option Value} {base : Heap}
def spDeed (K : PySem.W.Frag) : Sp := fun vs H Q _ => ∃ (c : Int) (k : Nat) (l : Addr) (ns : List Str) (sp lt : Int), vs = [.int c, .int k, .ref l, .int sp, .int lt] ∧ k ≤ 1000 ∧ SqL K H l (ns.map V.str) ∧ ns ≠ [] ∧ 1 ≤ sp ∧ sp ≤ 10 ^ 20 ∧ 0 ≤ lt ∧ lt < 3 ∧
  ∀ q H' d, H q = none → Same H H' → H' q = some (.tup (Dd.v d)) → GoodD ns d → Q (.ref q) H'
theorem scDeed : FnScope ["_law_cell", "_law_k", "_law_names_here", "_law_span_here", "_law_light", "_law_mixed", "_law_name"] ["_law_cell", "_law_k", "_law_names_here", "_law_span_here", "_law_light"] (defScope sDeed) := ⟨rfl, rfl, rfl, by decide +kernel, rfl, by decide +kernel, by decide +kernel⟩
set_option maxHeartbeats 4000000 in
theorem ok_deed {f : Addr} (F : FunB K "_law_deed" "_law_deed" sDeed f ["_law_cell", "_law_k", "_law_names_here", "_law_span_here", "_law_light"]) (B : Blt mg) : FnP P w K mg base 1 f ["_law_cell", "_law_k", "_law_names_here", "_law_span_here", "_law_light"] (spDeed K) := by
  refine F.ok scDeed (fun vs H Q E h => ?_) (fun cdv A outer s H vs Q E hr h => ?_)
  · obtain ⟨c, k, l, ns, sp, lt, rfl, _⟩ := h
    rfl
  · obtain ⟨c, k, l, ns, sp, lt, rfl, hk, hS, hne, sp1, sp2, l0, l3, kk⟩ := h
    refine ⟨_, (pss_cons (ps_set (i := 5) scDeed.nd rfl (Or.inl rfl) (pe_op op_mod.letter (pe_op op_add (pe_op op_add (pe_op op_mul (pv 0) pe_int) (pe_op op_mul (pe_op op_mul (pv 1) (pv 1)) pe_int)) pe_int) pe_int))
      (pss_cons (ps_set (i := 6) scDeed.nd rfl (Or.inl rfl) (pe_ix ix_list (pv 2) (pe_op op_mod.letter (pe_op op_fdiv (pv 5) pe_int) (pe_callB call_len_seq rfl B.len PySem.boot_len (pa_cons (pv 2) pa_nil))) (fun _ _ => rfl)))
      (pss_cons (ps_if (pt_cmpR op_eq (pe_op op_mod (pv 5) pe_int) pe_int (nomark _)) (pss_one (ps_ret (pe_tup (pa_cons pe_str (pa_cons (pv 6) (pa_cons pe_int pa_nil)))))) pss_nil)
      (pss_cons (ps_if (PW.pt (pw_and (pt_cmpR op_eq (pe_op op_mod (pv 5) pe_int) pe_int (nomark _)) (pw_and1 (pt_cmpR op_eq (pe_op op_mod (pv 0) pe_int) pe_int (nomark _))))) (pss_one (ps_ret (pe_tup (pa_cons pe_str (pa_cons pe_str (pa_cons (pe_op op_mod.letter (pe_op op_fdiv (pv 0) pe_int) (pe_op op_add (pe_op op_pow pe_int pe_int) pe_int)) pa_nil)))))) pss_nil)
      (pss_cons (ps_if (pt_cmpR op_eq (pe_op op_mod (pv 5) pe_int) pe_int (nomark _)) (pss_one (ps_ret (pe_tup (pa_cons pe_str (pa_cons pe_str (pa_cons (pe_op op_mod.letter (pe_op op_fdiv (pv 0) pe_int) (pe_op op_add.letter0 (pe_op op_mul pe_int (pv 3)) pe_int)) pa_nil)))))) pss_nil)
      (pss_one (ps_ret (pe_tup (pa_cons pe_str (pa_cons (pv 6) (pa_cons (pe_ix ix_list (pe_lst (pa_cons pe_int (pa_cons (pe_op op_add.letter0 pe_int (pe_op op_mod (pv 0) pe_int)) (pa_cons (pe_op op_add.letter0 pe_int (pe_op op_mod (pv 0) (pe_op op_pow pe_int pe_int))) pa_nil)))) (pv 4) (fun _ _ => rfl)) pa_nil))))))))))), ?_⟩
    refine ⟨_, rfl, _, _, rfl, rfl, mulR (by decide) (by decide), _, rfl, _, rfl, _, _, rfl, rfl, mulL (by omega) (by omega), _, _, rfl, rfl, mulR (by decide) (by decide), _, _, rfl, rfl, _, _, rfl, rfl, _, _, rfl, rfl, (by show (0 : Int) < 2147483647; decide), fun mx hmx => ?_⟩
    have m0 : 0 ≤ mx := by omega
    clear hmx
    have hlen : 0 < ns.length := List.length_pos_iff.mpr hne
    refine ⟨_, rfl, _, rfl, _, _, rfl, rfl, ⟨by decide, by decide⟩, _, rfl, l, _, rfl, .inl hS, _, _, rfl, rfl, (by show (0 : Int) < ((ns.map V.str).length : Nat); rw [List.length_map]; omega), fun ix hix => ?_⟩
    have i0 : 0 ≤ ix ∧ ix < ns.length := by
      rw [hix, List.length_map]
      exact ⟨Int.emod_nonneg _ (by omega), Int.emod_lt_of_pos _ (by omega)⟩
    clear hix
    obtain ⟨j, rfl⟩ := Int.eq_ofNat_of_zero_le i0.1
    have hj : j < ns.length := by omega
    have hnm : ns[j] ∈ ns := List.getElem_mem _
    refine ⟨l, _, _, .str ns[j], rfl, rfl, hS, atI_nat (by simp [hj]), ?_⟩
    generalize ns[j] = nm at hnm ⊢
    have small : ∀ xs : List V, xs.length = 3 → xs.length ≤ sizeLine := fun xs h => by rw [h]; decide
    -- drop
    refine ⟨_, rfl, _, _, rfl, rfl, (by first | (show (0 : Int) < 8; decide) | (show (0 : Int) < 16; decide)), rfl, _, rfl, ?_⟩
    refine ite2 (fun _ => ?_) (fun _ => ?_)
    · refine ⟨_, rfl, small _ rfl, fun q hq => ?_⟩
      exact kk q _ (.drop nm) hq (Same.upd hq) upd_same hnm
    -- rest, far
    refine ⟨_, rfl, _, _, rfl, rfl, (by first | (show (0 : Int) < 8; decide) | (show (0 : Int) < 16; decide)), rfl, _, rfl, ?_⟩
    have rest1 : ∀ (z : Int) (q : Addr), 0 ≤ z → z ≤ 10 ^ 30 → H q = none → Q (.ref q) (upd H q (.tup [.str "rest", .str "", .int z])) := fun z q h0 h1 hq => kk q _ (.rest z) hq (Same.upd hq) upd_same ⟨h0, h1⟩
    refine ite2 (fun _ => ⟨_, rfl, _, _, rfl, rfl, (by show (0 : Int) < 3; decide), rfl, _, rfl, ite2 (fun _ => ?far) (fun _ => ?_)⟩) (fun _ => iteF ?_)
    case far =>
      refine ⟨_, rfl, _, _, rfl, rfl, ⟨by decide, by decide⟩, _, _, rfl, rfl, pow_ok _ (by decide) (by decide), _, _, rfl, rfl, _, _, rfl, rfl, (by show (0 : Int) < 10 ^ Int.toNat 30 + 1; decide), fun z hz => ⟨small _ rfl, fun q hq => ?_⟩⟩
      have hz' : z = c / 3 % 1000000000000000000000000000001 := by rw [hz, p30]; rfl
      exact rest1 z q (by omega) (by omega) hq
    all_goals
      refine ⟨_, rfl, _, _, rfl, rfl, (by first | (show (0 : Int) < 8; decide) | (show (0 : Int) < 16; decide)), rfl, _, rfl, ?_⟩
      refine ite2 (fun _ => ?_) (fun _ => ?_)
      · refine ⟨_, rfl, _, _, rfl, rfl, ⟨by decide, by decide⟩, _, rfl, _, _, rfl, rfl, mulL (by decide) (by decide), _, _, rfl, rfl, fun y hy => ⟨_, _, rfl, rfl, (by show (0 : Int) < y; omega), fun z hz => ⟨small _ rfl, fun q hq => ?_⟩⟩⟩
        have h0 := Int.emod_nonneg (c / 3) (show y ≠ 0 by omega)
        have h1 := Int.emod_lt_of_pos (c / 3) (show (0 : Int) < y by omega)
        exact rest1 z q (by omega) (by omega) hq
      · refine ⟨_, rfl, _, rfl, _, _, rfl, rfl, (by show (0 : Int) < 4; decide), _, _, rfl, rfl, fun w1 hw1 => ⟨_, rfl, _, _, rfl, rfl, pow_ok _ (by decide) (by decide), _, _, rfl, rfl, (by show (0 : Int) < 10 ^ Int.toNat 30; decide), _, _, rfl, rfl, fun w2 hw2 => ⟨small _ rfl, fun p hp => ?_⟩⟩⟩
        have hw2' : w2 = 1 + c % 1000000000000000000000000000000 := by rw [hw2, p30]
        have hv : ∃ wt : Int, atI [V.int 1, .int w1, .int w2] lt = some (.int wt) ∧ 1 ≤ wt ∧ wt ≤ 10 ^ 30 := by
          have : lt = 0 ∨ lt = 1 ∨ lt = 2 := by omega
          rcases this with e | e | e
          · subst e; exact ⟨1, rfl, by decide, by decide⟩
          · subst e; exact ⟨w1, rfl, by omega, by omega⟩
          · subst e; exact ⟨w2, rfl, by omega, by omega⟩
        obtain ⟨wt, hat, wt1, wt2⟩ := hv
        refine ⟨_, rfl, p, _, lt, _, rfl, rfl, SqL.of upd_same, hat, small _ rfl, fun q hq => ?_⟩
        exact kk q _ (.ask nm wt) ((Same.upd hp).free hq) ((Same.upd hp).trans (Same.upd hq)) upd_same ⟨hnm, wt1, wt2⟩

end
end Lk

namespace Lk
open PySem L2
section
variable {P : Program} {w : World} {K : PySem.W.Frag} {mg : Str → Option Value} {base : Heap}
/-! ### _law_do: by the promises of the three methods -/
def spDo (C : Addr) (spA spR spD : Sp) : Sp := fun vs H Q _ => ∃ (p q dx : Addr) (d : Dd) (fs : List (Str × V)), vs = [.ref p, .ref q] ∧ H q = some (.tup (Dd.v d)) ∧ H p = some (.ins C dx fs) ∧ fs.lookup ("ask" : Str) = none ∧ fs.lookup ("rest" : Str) = none ∧ fs.lookup ("drop" : Str) = none ∧
  match d with
  | .ask n w => spA [.ref p, .str n, .int w] H Q E0
  | .rest k => spR [.ref p, .int k] H Q E0
  | .drop n => spD [.ref p, .str n] H Q E0
theorem scDo : FnScope ["_law_thing", "_law_deed_here"] ["_law_thing", "_law_deed_here"] (defScope sDo) := ⟨rfl, rfl, rfl, by decide +kernel, rfl, by decide +kernel, by decide +kernel⟩
theorem ok_do {f ga gr gd C : Addr} {fd : FuncData} {t0 : Tok} {k : Nat} {spA spR spD : Sp} (F : FunB K "_law_do" "_law_do" sDo f ["_law_thing", "_law_deed_here"]) (cl : Cls K C) (Ga : FnOk P w K mg base CX0 k ga fd ["self", "name", "weight"] spA) (hb0 : Binds K fd ["self", "name", "weight"] []) (hb1 : Binds K fd ["self", "name", "weight"] [.int 1 t0]) (Ma : Meth K C "ask" ga)
    (Gr : FnP P w K mg base k gr ["self", "steps"] spR) (Mr : Meth K C "rest" gr) (Gd : FnP P w K mg base k gd ["self", "name"] spD) (Md : Meth K C "drop" gd) : FnP P w K mg base (k + 1) f ["_law_thing", "_law_deed_here"] (spDo C spA spR spD) := by
  have hk : k ≤ k := Nat.le_refl _
  refine F.ok scDo (fun vs H Q E h => ?_) (fun cdv A outer s H vs Q E hr h => ?_)
  · obtain ⟨p, q, dx, d, fs, rfl, _⟩ := h
    rfl
  · obtain ⟨p, q, dx, d, fs, rfl, hq, hp, n1, n2, n3, k⟩ := h
    refine ⟨_, (pss_cons (ps_if (pt_cmpR op_eq (pe_ix ix_tup (pv 1) pe_int (fun _ _ => rfl)) pe_str (nomark _)) (pss_one (ps_ret (pe_methP (pv 0) cl Mr Gr (hr.mono hk) (pa_cons (pe_ix ix_tup (pv 1) pe_int (fun _ _ => rfl)) pa_nil)))) pss_nil)
      (pss_cons (ps_if (pt_cmpR op_eq (pe_ix ix_tup (pv 1) pe_int (fun _ _ => rfl)) pe_str (nomark _)) (pss_one (ps_ret (pe_methP (pv 0) cl Md Gd (hr.mono hk) (pa_cons (pe_ix ix_tup (pv 1) pe_int (fun _ _ => rfl)) pa_nil)))) pss_nil)
      (pss_cons (ps_if (pt_cmpR op_eq (pe_ix ix_tup (pv 1) pe_int (fun _ _ => rfl)) pe_int (nomark _)) (pss_one (ps_ret (pe_meth (pv 0) cl Ma Ga (hr.mono hk) hb1 (show Vals [V.int 1] [Value.int 1 t0] from .cons ⟨t0, rfl⟩ .nil) pass0 (pa_cons (pe_ix ix_tup (pv 1) pe_int (fun _ _ => rfl)) pa_nil)))) pss_nil)
      (pss_one (ps_ret (pe_meth (pv 0) cl Ma Ga (hr.mono hk) hb0 .nil pass0 (pa_cons (pe_ix ix_tup (pv 1) pe_int (fun _ _ => rfl)) (pa_cons (pe_ix ix_tup (pv 1) pe_int (fun _ _ => rfl)) pa_nil)))))))), ?_⟩
    cases d with
    | rest z =>
      refine ⟨_, rfl, q, _, _, _, rfl, rfl, SqT.of hq, rfl, rfl, _, rfl, ?_⟩
      refine iteT ?_
      exact ⟨_, rfl, p, dx, fs, rfl, hp, n2, _, rfl, q, _, _, _, rfl, rfl, SqT.of hq, rfl, k⟩
    | drop n =>
      refine ⟨_, rfl, q, _, _, _, rfl, rfl, SqT.of hq, rfl, rfl, _, rfl, ?_⟩
      refine iteF ?_
      refine ⟨_, rfl, q, _, _, _, rfl, rfl, SqT.of hq, rfl, rfl, _, rfl, ?_⟩
      refine iteT ?_
      exact ⟨_, rfl, p, dx, fs, rfl, hp, n3, _, rfl, q, _, _, _, rfl, rfl, SqT.of hq, rfl, k⟩
    | ask n w =>
      refine ⟨_, rfl, q, _, _, _, rfl, rfl, SqT.of hq, rfl, rfl, _, rfl, ?_⟩
      refine iteF ?_
      refine ⟨_, rfl, q, _, _, _, rfl, rfl, SqT.of hq, rfl, rfl, _, rfl, ?_⟩
      refine iteF ?_
      refine ⟨_, rfl, q, _, _, _, rfl, rfl, SqT.of hq, rfl, rfl, _, rfl, ?_⟩
      refine ite2 (fun h1 => ?_) (fun _ => ?_)
      · have h1 : w = 1 := V.int.inj (of_decide_eq_true h1)
        subst h1
        exact ⟨_, rfl, p, dx, fs, rfl, hp, n1, _, rfl, q, _, _, _, rfl, rfl, SqT.of hq, rfl, k⟩
      · exact ⟨_, rfl, p, dx, fs, rfl, hp, n1, _, rfl, q, _, _, _, rfl, rfl, SqT.of hq, rfl, _, rfl, q, _, _, _, rfl, rfl, SqT.of hq, rfl, k⟩

end
end Lk

namespace Lk
open PySem L2
theorem agedI_next {c p t : Int} (hc : 0 ≤ c) (hp : 0 < p) (ht : 0 < t) : agedI c p t = agedI (c / p) p (t - 1) := by
  obtain ⟨n, hn⟩ : ∃ n : Nat, t = n + 1 := ⟨(t - 1).toNat, by omega⟩
  subst hn
  unfold agedI
  rw [show ((n : Int) + 1).toNat = n + 1 by omega, show ((n : Int) + 1 - 1).toNat = n by omega, Nat.pow_succ, Nat.mul_comm, ← Nat.div_div_eq_div_mul]
  obtain ⟨a, rfl⟩ := Int.eq_ofNat_of_zero_le hc
  obtain ⟨b, rfl⟩ := Int.eq_ofNat_of_zero_le (Int.le_of_lt hp)
  rfl
theorem agedI_c0 (p t : Int) : agedI 0 p t = 0 := by unfold agedI; simp
def DOk : Dd → Prop
  | .ask _ w => 0 ≤ w
  | .rest k => 0 ≤ k
  | .drop _ => True
theorem DOk.steps {d : Dd} (h : DOk d) : 0 ≤ d.steps := by
  cases d with
  | ask n w => show (0 : Int) ≤ 1; decide
  | rest k => exact h
  | drop n => show (0 : Int) ≤ 0; decide
theorem GoodD.ok {ns : List Str} {d : Dd} (h : GoodD ns d) : DOk d := by
  cases d with
  | ask n w => obtain ⟨_, h, _⟩ := h; show 0 ≤ w; omega
  | rest k => exact h.1
  | drop n => trivial
/-! ### the mathematics of a book: its state behind k deeds, and each name's own history -/
theorem findE_cons (x : Str × Int × Int) (r : List (Str × Int × Int)) (n : Str) : findE (x :: r) n = if x.1 = n then some x else findE r n := by
  unfold findE
  rw [List.find?_cons]
  by_cases h : x.1 = n
  · rw [decide_eq_true h, if_pos h]
  · rw [decide_eq_false h, if_neg h]
theorem ageE_cons (x : Str × Int × Int) (r : List (Str × Int × Int)) (p t : Int) : ageE (x :: r) p t = if 0 < agedI x.2.1 p t then oldE p t x :: ageE r p t else ageE r p t := by
  unfold ageE
  rw [List.filter_cons]
  by_cases h : 0 < agedI x.2.1 p t
  · rw [if_pos h, if_pos (show stayE p t x = true from decide_eq_true h)]; rfl
  · rw [if_neg h, if_neg (show ¬ stayE p t x = true by unfold stayE; simp only [decide_eq_true_eq]; exact h)]
theorem findE_age {p t : Int} {n : Str} : ∀ {es : List (Str × Int × Int)}, (namesOf es).Nodup → findE (ageE es p t) n = match findE es n with
    | some e => if 0 < agedI e.2.1 p t then some (oldE p t e) else none
    | none => none
  | [], _ => rfl
  | x :: r, h => by
    have hn : x.1 ∉ namesOf r := (List.nodup_cons.mp h).1
    have ih := findE_age (p := p) (t := t) (n := n) (List.nodup_cons.mp h).2
    rw [ageE_cons, findE_cons x r]
    by_cases e : x.1 = n
    · rw [if_pos e]
      have hr : findE (ageE r p t) n = none := findE_none (fun z => hn (by rw [e]; exact ageE_names z))
      by_cases h2 : 0 < agedI x.2.1 p t
      · rw [if_pos h2, findE_cons, if_pos (show (oldE p t x).1 = n from e)]; show _ = (if _ then _ else _); rw [if_pos h2]
      · rw [if_neg h2, hr]; show _ = (if _ then _ else _); rw [if_neg h2]
    · rw [if_neg e, ← ih]
      by_cases h2 : 0 < agedI x.2.1 p t
      · rw [if_pos h2, findE_cons, if_neg (show ¬ (oldE p t x).1 = n from e)]
      · rw [if_neg h2]
theorem findE_append (a b : List (Str × Int × Int)) (n : Str) : findE (a ++ b) n = match findE a n with | some e => some e | none => findE b n := by
  unfold findE
  rw [List.find?_append]
  cases a.find? fun e => decide (e.1 = n) <;> rfl
theorem findE_mapG {n m : Str} {w d : Int} : ∀ {es : List (Str × Int × Int)}, findE (es.map fun e => if e.1 = n then (e.1, e.2.1 + w, d) else e) m = (findE es m).map fun e => if e.1 = n then (e.1, e.2.1 + w, d) else e
  | [] => rfl
  | x :: r => by
    rw [List.map_cons, findE_cons, findE_cons, findE_mapG (es := r)]
    have : (if x.1 = n then (x.1, x.2.1 + w, d) else x).1 = x.1 := by
      by_cases h : x.1 = n
      · rw [if_pos h]
      · rw [if_neg h]
    rw [this]
    by_cases h : x.1 = m
    · rw [if_pos h, if_pos h]; rfl
    · rw [if_neg h, if_neg h]
theorem findE_grow {es : List (Str × Int × Int)} {n m : Str} {w d : Int} : findE (growE es n w d) m = if m = n then some (n, ((findE es n).map (·.2.1)).getD 0 + w, d) else findE es m := by
  cases e : findE es n with
  | none =>
    rw [growE_none e, findE_append]
    by_cases h : m = n
    · subst h
      rw [if_pos rfl, e]
      show findE [(m, w, d)] m = _
      rw [findE_cons, if_pos rfl]
      simp
    · rw [if_neg h]
      cases q : findE es m with
      | some x => rfl
      | none =>
        show findE [(n, w, d)] m = none
        rw [findE_cons, if_neg (fun z => h z.symm)]
        rfl
  | some x =>
    have hx := (findE_some e).1
    unfold growE
    rw [e]
    show findE (es.map fun e => if e.1 = n then (e.1, e.2.1 + w, d) else e) m = _
    rw [findE_mapG]
    by_cases h : m = n
    · subst h
      rw [if_pos rfl, e]
      show some (if x.1 = m then _ else _) = _
      rw [if_pos hx, hx]
      rfl
    · rw [if_neg h]
      cases q : findE es m with
      | none => rfl
      | some y =>
        show some (if y.1 = n then _ else _) = _
        rw [if_neg (fun z => h (by rw [← (findE_some q).1]; exact z))]

/-- what holds of a state behind k deeds -/
structure Core (S : BS) (k : Nat) : Prop where
  nd : (namesOf S.ents).Nodup
  pos : ∀ e ∈ S.ents, 0 < e.2.1 ∧ e.2.1 ≤ k * 10 ^ 30 ∧ 1 ≤ e.2.2 ∧ e.2.2 ≤ k
  inj : ∀ a ∈ S.ents, ∀ b ∈ S.ents, a.2.2 = b.2.2 → a.1 = b.1
  few : S.ents.length ≤ k
theorem ageE_mem {es : List (Str × Int × Int)} {p t : Int} {e : Str × Int × Int} (h : e ∈ ageE es p t) : ∃ x ∈ es, e = oldE p t x ∧ 0 < agedI x.2.1 p t := by
  obtain ⟨x, hx, rfl⟩ := List.mem_map.mp h
  obtain ⟨h1, h2⟩ := List.mem_filter.mp hx
  exact ⟨x, h1, rfl, of_decide_eq_true h2⟩
theorem Core.age {S : BS} {k : Nat} (h : Core S k) {p t : Int} : Core { S with ents := ageE S.ents p t } k where
  nd := by
    have : (namesOf (ageE S.ents p t)).Sublist (namesOf S.ents) := by
      unfold namesOf ageE
      rw [List.map_map]
      exact List.filter_sublist.map (fun e : Str × Int × Int => e.1)
    exact this.nodup h.nd
  pos := fun e he => by
    obtain ⟨x, hx, rfl, hp⟩ := ageE_mem he
    obtain ⟨h1, h2, h3, h4⟩ := h.pos x hx
    have := agedI_le (p := p) (t := t) (Int.le_of_lt h1)
    refine ⟨hp, ?_, h3, h4⟩
    show agedI x.2.1 p t ≤ _
    omega
  inj := fun a ha b hb e => by
    obtain ⟨x, hx, rfl, _⟩ := ageE_mem ha
    obtain ⟨y, hy, rfl, _⟩ := ageE_mem hb
    exact h.inj x hx y hy e
  few := by
    refine Nat.le_trans ?_ h.few
    show (ageE S.ents p t).length ≤ _
    unfold ageE
    rw [List.length_map]
    exact List.length_filter_le _ _
theorem Core.pass {S : BS} {k : Nat} (h : Core S k) {st : Int} : Core (passS S st) k := by
  by_cases ht : 0 < timesOf S st
  · have := h.age (p := S.part) (t := timesOf S st)
    refine ⟨?_, ?_, ?_, ?_⟩
    all_goals
      unfold passS
      dsimp only
      rw [if_pos ht]
    · exact this.nd
    · exact this.pos
    · exact this.inj
    · exact this.few
  · refine ⟨?_, ?_, ?_, ?_⟩
    all_goals
      unfold passS
      dsimp only
      rw [if_neg ht]
    · exact h.nd
    · exact h.pos
    · exact h.inj
    · exact h.few
theorem Core.up {S : BS} {k : Nat} (h : Core S k) : Core S (k + 1) where
  nd := h.nd
  pos := fun e he => by
    obtain ⟨h1, h2, h3, h4⟩ := h.pos e he
    refine ⟨h1, by push_cast; omega, h3, by push_cast; omega⟩
  inj := h.inj
  few := Nat.le_succ_of_le h.few
theorem Core.of {S S' : BS} {k : Nat} (h : Core S k) (e : S'.ents = S.ents) : Core S' k := ⟨by rw [e]; exact h.nd, by rw [e]; exact h.pos, by rw [e]; exact h.inj, by rw [e]; exact h.few⟩
theorem growE_mem {es : List (Str × Int × Int)} {n : Str} {w d : Int} {e : Str × Int × Int} (h : e ∈ growE es n w d) : (e ∈ es ∧ e.1 ≠ n) ∨ (e.1 = n ∧ e.2.2 = d ∧ (e.2.1 = w ∨ ∃ x ∈ es, e.2.1 = x.2.1 + w)) := by
  cases q : findE es n with
  | none =>
    rw [growE_none q] at h
    rcases List.mem_append.mp h with z | z
    · exact .inl ⟨z, fun he => findE_isNone q (List.mem_map.mpr ⟨e, z, he⟩)⟩
    · rw [List.mem_singleton.mp z]
      exact .inr ⟨rfl, rfl, .inl rfl⟩
  | some x =>
    unfold growE at h
    rw [q] at h
    obtain ⟨y, hy, rfl⟩ := List.mem_map.mp h
    by_cases e : y.1 = n
    · rw [if_pos e]
      exact .inr ⟨e, rfl, .inr ⟨y, hy, rfl⟩⟩
    · rw [if_neg e]
      exact .inl ⟨hy, e⟩
theorem growE_names {es : List (Str × Int × Int)} {n : Str} {w d : Int} : namesOf (growE es n w d) = if n ∈ namesOf es then namesOf es else namesOf es ++ [n] := by
  cases q : findE es n with
  | none =>
    rw [growE_none q, if_neg (findE_isNone q)]
    unfold namesOf
    rw [List.map_append]
    rfl
  | some x =>
    have hm : n ∈ namesOf es := List.mem_map.mpr ⟨x, findE_mem q, (findE_some q).1⟩
    rw [if_pos hm]
    unfold growE
    rw [q]
    show namesOf (es.map _) = _
    unfold namesOf
    rw [List.map_map]
    refine List.map_congr_left fun y hy => ?_
    show (if y.1 = n then _ else _ : Str × Int × Int).1 = y.1
    by_cases e : y.1 = n
    · rw [if_pos e]
    · rw [if_neg e]
theorem Core.grow {S : BS} {k : Nat} (h : Core S k) {n : Str} {w : Int} (w1 : 1 ≤ w) (w2 : w ≤ 10 ^ 30) : Core { S with ents := growE S.ents n w ((k + 1 : Nat) : Int) } (k + 1) where
  nd := by
    show (namesOf (growE S.ents n w _)).Nodup
    rw [growE_names]
    by_cases hm : n ∈ namesOf S.ents
    · rw [if_pos hm]; exact h.nd
    · rw [if_neg hm, List.nodup_append]
      exact ⟨h.nd, by simp, fun a ha b hb z => hm (by rw [List.mem_singleton.mp hb] at z; rw [← z]; exact ha)⟩
  pos := fun e he => by
    rcases growE_mem he with ⟨z, _⟩ | ⟨_, e2, e3⟩
    · obtain ⟨h1, h2, h3, h4⟩ := h.pos e z
      exact ⟨h1, by push_cast; omega, h3, by push_cast; omega⟩
    · rw [e2]
      rcases e3 with e3 | ⟨x, hx, e3⟩
      · rw [e3]
        exact ⟨by omega, by push_cast; omega, by push_cast; omega, Int.le_refl _⟩
      · obtain ⟨h1, h2, h3, h4⟩ := h.pos x hx
        rw [e3]
        exact ⟨by omega, by push_cast; omega, by push_cast; omega, Int.le_refl _⟩
  inj := fun a ha b hb e => by
    rcases growE_mem ha with ⟨za, _⟩ | ⟨a1, a2, _⟩
    · rcases growE_mem hb with ⟨zb, _⟩ | ⟨b1, b2, _⟩
      · exact h.inj a za b zb e
      · have := (h.pos a za).2.2.2
        rw [e, b2] at this
        push_cast at this
        omega
    · rcases growE_mem hb with ⟨zb, _⟩ | ⟨b1, b2, _⟩
      · have := (h.pos b zb).2.2.2
        rw [← e, a2] at this
        push_cast at this
        omega
      · rw [a1, b1]
  few := by
    show (growE S.ents n w _).length ≤ _
    have := h.few
    unfold growE
    cases findE S.ents n with
    | none => show (S.ents ++ _).length ≤ _; rw [List.length_append]; show _ + 1 ≤ _; omega
    | some x => show (S.ents.map _).length ≤ _; rw [List.length_map]; omega

/-! ### what a passing of time does to a name -/
theorem times_nn {S : BS} {st : Int} (sp : 1 ≤ S.span) (h : 0 ≤ st) : 0 ≤ timesOf S st := by
  unfold timesOf
  have := Int.ediv_le_ediv (show 0 < S.span by omega) (show S.time ≤ S.time + st by omega)
  omega
theorem pass_view {S : BS} {k : Nat} (h : Core S k) (sp : 1 ≤ S.span) {st : Int} (h0 : 0 ≤ st) (n : Str) :
    cntE (passS S st) n = agedI (cntE S n) S.part (timesOf S st) ∧ lstE (passS S st) n = if agedI (cntE S n) S.part (timesOf S st) = 0 then none else lstE S n := by
  have ht := times_nn sp h0
  by_cases hp : 0 < timesOf S st
  · have ef : findE (passS S st).ents n = match findE S.ents n with | some e => if 0 < agedI e.2.1 S.part (timesOf S st) then some (oldE S.part (timesOf S st) e) else none | none => none := by
      unfold passS
      dsimp only
      rw [if_pos hp]
      exact findE_age h.nd
    unfold cntE lstE
    rw [ef]
    cases q : findE S.ents n with
    | none =>
      show (0 : Int) = agedI 0 _ _ ∧ none = if agedI 0 _ _ = 0 then _ else _
      rw [agedI_c0]
      exact ⟨rfl, rfl⟩
    | some e =>
      show (Option.map (fun x : Str × Int × Int => x.2.1) (if _ then _ else _)).getD 0 = agedI e.2.1 _ _ ∧ (Option.map (fun x : Str × Int × Int => x.2.2) (if _ then _ else _)) = if agedI e.2.1 _ _ = 0 then none else some e.2.2
      by_cases hz : 0 < agedI e.2.1 S.part (timesOf S st)
      · rw [if_pos hz, if_neg (by omega)]
        exact ⟨rfl, rfl⟩
      · have := agedI_nn e.2.1 S.part (timesOf S st)
        have hz' : agedI e.2.1 S.part (timesOf S st) = 0 := by omega
        rw [if_neg hz, if_pos hz', hz']
        exact ⟨rfl, rfl⟩
  · have e0 : timesOf S st = 0 := by omega
    have ef : findE (passS S st).ents n = findE S.ents n := by
      unfold passS
      dsimp only
      rw [if_neg hp]
    unfold cntE lstE
    rw [ef, e0]
    cases q : findE S.ents n with
    | none =>
      show (0 : Int) = agedI 0 _ _ ∧ none = if agedI 0 _ _ = 0 then _ else _
      rw [agedI_c0]
      exact ⟨rfl, rfl⟩
    | some e =>
      have hpos := (h.pos e (findE_mem q)).1
      show e.2.1 = agedI e.2.1 _ _ ∧ some e.2.2 = if agedI e.2.1 _ _ = 0 then none else some e.2.2
      rw [agedI_zero (by omega), if_neg (by omega)]
      exact ⟨rfl, rfl⟩

/-! ### a deed -/
def stepB (S : BS) : Dd → BS
  | .ask n w => askS S n w
  | .rest k => passS (deedS S) k
  | .drop _ => deedS S
theorem Core.cnn {S : BS} {k : Nat} (h : Core S k) (n : Str) : 0 ≤ cntE S n ∧ (cntE S n = 0 → lstE S n = none) := by
  unfold cntE lstE
  cases q : findE S.ents n with
  | none => exact ⟨Int.le_refl _, fun _ => rfl⟩
  | some e =>
    have := (h.pos e (findE_mem q)).1
    exact ⟨Int.le_of_lt this, fun z => by have z : e.2.1 = 0 := z; omega⟩
end Lk

namespace Lk
open PySem L2
abbrev sShelf : Stmt := top 19
abbrev sSInit : Stmt := inClass sShelf 0
abbrev sSAsk : Stmt := inClass sShelf 1
abbrev sSDrop : Stmt := inClass sShelf 2
abbrev sSNames : Stmt := inClass sShelf 3
abbrev sSHas : Stmt := inClass sShelf 4
abbrev sSGoings : Stmt := inClass sShelf 5
abbrev sTakeIn : Stmt := inClass sShelf 6
abbrev sTakeOff : Stmt := inClass sShelf 7
abbrev sSFade : Stmt := inClass sShelf 8
abbrev sCkPlaces : Stmt := top 11

/-! ### what a shelf has beyond a book -/
structure Going where
  deed : Int
  name : Str
  why : Str
  count : Int
  last : Int
def Going.v (g : Going) : List V := [.int g.deed, .str g.name, .str g.why, .int g.count, .int g.last]
structure ShS where
  places : Int
  stand : List Str
  gone : List Going
def tabS (ns : List Str) : List (Key × V) := ns.map fun n => (Sum.inr n, .bl true)
def offS (t : ShS) (d : Int) (n r : Str) (c l : Int) : ShS := { t with stand := t.stand.filter fun m => decide (m ≠ n), gone := t.gone ++ [⟨d, n, r, c, l⟩] }
def inS (t : ShS) (n : Str) : ShS := { t with stand := t.stand ++ [n] }
def fadeS : Int → Str → Int → ShS → ShS := fun d n l t => if n ∈ t.stand then offS t d n "faded" 0 l else t
structure StandOn (ds gl : Addr) (t : ShS) (H : Hp) : Prop where
  st : H ds = some (.dK (tabS t.stand))
  gn : ∃ ts : List Addr, H gl = some (.lst (ts.map V.ref)) ∧ ts.length = t.gone.length ∧ ∀ (j : Nat) (a : Addr) (g : Going), ts[j]? = some a → t.gone[j]? = some g → H a = some (.tup g.v)
  nd : t.stand.Nodup
  few : t.gone.length + t.stand.length ≤ 1000
def shelfK (C p dc dl ds gl : Addr) : Kd ShS := ⟨C, p, dc, dl, fun t => [("places", .int t.places), ("standing", .ref ds), ("gone", .ref gl)], StandOn ds gl, fun b => b = p ∨ b = dc ∨ b = dl ∨ b = ds ∨ b = gl⟩
theorem StandOn.fr {p dc dl ds gl : Addr} {t : ShS} {H H' : Hp} (h : StandOn ds gl t H) (n1 : ds ≠ p ∧ ds ≠ dc ∧ ds ≠ dl) (n2 : gl ≠ p ∧ gl ≠ dc ∧ gl ≠ dl)
    (k : ∀ b o, H b = some o → (b = p ∨ b = dc ∨ b = dl ∨ b = ds ∨ b = gl) → b ≠ p → b ≠ dc → b ≠ dl → H' b = some o) (kt : ∀ b xs, H b = some (.tup xs) → H' b = some (.tup xs)) : StandOn ds gl t H' := by
  obtain ⟨h1, ⟨ts, h2, h3, h4⟩, h5, h6⟩ := h
  exact ⟨k _ _ h1 (.inr (.inr (.inr (.inl rfl)))) n1.1 n1.2.1 n1.2.2, ⟨ts, k _ _ h2 (.inr (.inr (.inr (.inr rfl)))) n2.1 n2.2.1 n2.2.2, h3, fun j a g e1 e2 => kt _ _ (h4 j a g e1 e2)⟩, h5, h6⟩
structure ShIs (C : Addr) (κ : Kd ShS) (p dc dl ds gl : Addr) : Prop where
  eq : κ = shelfK C p dc dl ds gl
  n0 : dc ≠ dl
  n1 : ds ≠ p ∧ ds ≠ dc ∧ ds ≠ dl
  n2 : gl ≠ p ∧ gl ≠ dc ∧ gl ≠ dl
  n3 : ds ≠ gl
def shelves (C : Addr) : Objs ShS C where
  is := fun κ => ∃ p dc dl ds gl, ShIs C κ p dc dl ds gl
  ok := by
    rintro κ ⟨p, dc, dl, ds, gl, rfl, n0, n1, n2, n3⟩
    refine ⟨.inl rfl, .inr (.inl rfl), .inr (.inr (.inl rfl)), n0, fun _ => by show 3 ≤ 100; decide, fun t m hm => ?_, fun t H H' h k kt => StandOn.fr h n1 n2 k kt⟩
    show List.lookup m [(("places" : Str), V.int t.places), ("standing", V.ref ds), ("gone", V.ref gl)] = none
    have h1 : (m == ("places" : Str)) = false := beq_eq_false_iff_ne.mpr fun z => hm (by rw [z]; simp [exNames])
    have h2 : (m == ("standing" : Str)) = false := beq_eq_false_iff_ne.mpr fun z => hm (by rw [z]; simp [exNames])
    have h3 : (m == ("gone" : Str)) = false := beq_eq_false_iff_ne.mpr fun z => hm (by rw [z]; simp [exNames])
    rw [List.lookup_cons, h1, List.lookup_cons, h2, List.lookup_cons, h3, List.lookup_nil]
  cls := by
    rintro κ ⟨p, dc, dl, ds, gl, rfl, _⟩
    rfl
structure STxt (K : PySem.W.Frag) (C : Addr) : Prop extends BTxt K C where
  s1 : NoAttr K C "places"
  s2 : NoAttr K C "standing"
  s3 : NoAttr K C "gone"
section
variable {S : BS} {dc dl ds gl : Addr} {x y z : V}
theorem f_places : (fldsB S dc dl [("places", x), ("standing", y), ("gone", z)]).lookup ("places" : Str) = some x := rfl
theorem f_standing : (fldsB S dc dl [("places", x), ("standing", y), ("gone", z)]).lookup ("standing" : Str) = some y := rfl
theorem f_gone : (fldsB S dc dl [("places", x), ("standing", y), ("gone", z)]).lookup ("gone" : Str) = some z := rfl
end
theorem valV_tabS {n : Str} : ∀ {st : List Str}, valV (tabS st) (Sum.inr n : Key) = if n ∈ st then some (.bl true) else none
  | [] => rfl
  | m :: r => by
    by_cases h : m = n
    · rw [if_pos (by rw [h]; exact List.mem_cons_self)]
      exact valV_pos (p := ((Sum.inr m, .bl true) : Key × V)) (congrArg Sum.inr h)
    · have e : valV (tabS (m :: r)) (Sum.inr n : Key) = valV (tabS r) (Sum.inr n : Key) := valV_neg (p := ((Sum.inr m, .bl true) : Key × V)) (fun z => h (Sum.inr.inj z))
      rw [e, valV_tabS]
      by_cases h2 : n ∈ r
      · rw [if_pos h2, if_pos (List.mem_cons_of_mem _ h2)]
      · rw [if_neg h2, if_neg (fun z => by rcases List.mem_cons.mp z with z | z; exact h z.symm; exact h2 z)]
theorem dropK_tabS {n : Str} {st : List Str} : dropK (tabS st) (Sum.inr n : Key) = tabS (st.filter fun m => decide (m ≠ n)) := by
  unfold dropK tabS
  rw [List.filter_map]
  refine congrArg (List.map _) (List.filter_congr fun m _ => ?_)
  rw [Bool.eq_iff_iff]
  simp
theorem putK_tabS {n : Str} {st : List Str} (h : n ∉ st) : putK (tabS st) (Sum.inr n : Key) (.bl true) = tabS (st ++ [n]) := by
  have : valV (tabS st) (Sum.inr n : Key) = none := by rw [valV_tabS, if_neg h]
  rw [putK_new _ this]
  unfold tabS
  rw [List.map_append]
  rfl
theorem filter_len {n : Str} : ∀ {st : List Str}, st.Nodup → n ∈ st → (st.filter fun m => decide (m ≠ n)).length + 1 = st.length
  | [], _, h => by simp at h
  | m :: r, nd, h => by
    obtain ⟨h1, h2⟩ := List.nodup_cons.mp nd
    by_cases e : m = n
    · subst e
      have : (r.filter fun k => decide (k ≠ m)) = r := List.filter_eq_self.mpr fun a ha => decide_eq_true fun z => h1 (by rw [← z]; exact ha)
      rw [List.filter_cons, if_neg (by simp), this]
      rfl
    · have hr : n ∈ r := by
        rcases List.mem_cons.mp h with z | z
        · exact absurd z.symm e
        · exact z
      rw [List.filter_cons, if_pos (decide_eq_true e), List.length_cons, List.length_cons, filter_len h2 hr]
end Lk

namespace Lk
open PySem L2
section
variable {P : Program} {w : World} {K : PySem.W.Frag} {mg : Str → Option Value} {base : Heap} {C : Addr}

/-- the dict of what stands, the list of what went, get new contents -/
theorem BookAt.setStand {κ : Kd ShS} {S : BS} {t t' : ShS} {H : Hp} {p dc dl ds gl : Addr} (B : BookAt κ S t H) (h : ShIs C κ p dc dl ds gl) (e : t'.places = t.places) (eg : t'.gone = t.gone) (nd : t'.stand.Nodup) (few : t'.gone.length + t'.stand.length ≤ 1000) : BookAt κ S t' (upd H ds (.dK (tabS t'.stand))) := by
  obtain ⟨rfl, n0, n1, n2, n3⟩ := h
  obtain ⟨⟨dx, h1⟩, h2, h3, h4, h5⟩ := B
  obtain ⟨g1, ⟨ts, g2, g3, g4⟩, g5, g6⟩ := h4
  refine ⟨⟨dx, ?_⟩, ?_, ?_, ⟨upd_same, ⟨ts, ?_, by rw [eg]; exact g3, fun j a g e1 e2 => ?_⟩, nd, few⟩, al_upd h5 (by intro xs z; cases z)⟩
  · show upd H ds _ p = some (.ins C dx (fldsB S dc dl [("places", .int t'.places), ("standing", .ref ds), ("gone", .ref gl)]))
    rw [upd_ne (Ne.symm n1.1), e]; exact h1
  · show upd H ds _ dc = _; rw [upd_ne (Ne.symm n1.2.1)]; exact h2
  · show upd H ds _ dl = _; rw [upd_ne (Ne.symm n1.2.2)]; exact h3
  · rw [upd_ne (Ne.symm n3)]; exact g2
  · rw [eg] at e2
    have := g4 j a g e1 e2
    rw [upd_ne (ne_of this g1 (by intro z; cases z))]; exact this
theorem BookAt.addGone {κ : Kd ShS} {S : BS} {t : ShS} {H : Hp} {p dc dl ds gl a : Addr} {g : Going} {xs : List V} (B : BookAt κ S t H) (h : ShIs C κ p dc dl ds gl) (hg : H gl = some (.lst xs)) (ha : H a = some (.tup g.v)) (few : t.gone.length + 1 + t.stand.length ≤ 1000) :
    BookAt κ S { t with gone := t.gone ++ [g] } (upd H gl (.lst (xs ++ [.ref a]))) := by
  obtain ⟨rfl, n0, n1, n2, n3⟩ := h
  obtain ⟨⟨dx, h1⟩, h2, h3, h4, h5⟩ := B
  obtain ⟨g1, ⟨ts, g2, g3, g4⟩, g5, g6⟩ := h4
  have : xs = ts.map V.ref := by rw [g2] at hg; cases hg; rfl
  subst this
  have keep : ∀ {b : Addr} {zs : List V}, H b = some (.tup zs) → (upd H gl (.lst (ts.map V.ref ++ [.ref a]))) b = some (.tup zs) := fun {b zs} e => by rw [upd_ne (ne_of e g2 (by intro z; cases z))]; exact e
  refine ⟨⟨dx, ?_⟩, ?_, ?_, ⟨?_, ⟨ts ++ [a], by rw [upd_same, List.map_append]; rfl, by rw [List.length_append, List.length_append, g3]; rfl, fun j b u e1 e2 => ?_⟩, g5, by show (t.gone ++ [g]).length + _ ≤ _; rw [List.length_append]; exact few⟩, al_upd h5 (by intro xs z; cases z)⟩
  · show upd H gl _ p = _; rw [upd_ne (Ne.symm n2.1)]; exact h1
  · show upd H gl _ dc = _; rw [upd_ne (Ne.symm n2.2.1)]; exact h2
  · show upd H gl _ dl = _; rw [upd_ne (Ne.symm n2.2.2)]; exact h3
  · show upd H gl _ ds = _; rw [upd_ne n3]; exact g1
  · have e2 : (t.gone ++ [g])[j]? = some u := e2
    by_cases hj : j < ts.length
    · rw [List.getElem?_append_left hj] at e1
      rw [List.getElem?_append_left (by omega)] at e2
      exact keep (g4 j b u e1 e2)
    · have hl : j < (ts ++ [a]).length := (List.getElem?_eq_some_iff.mp e1).1
      rw [List.length_append] at hl
      have hl : j < ts.length + 1 := hl
      have ej : j = ts.length := by omega
      subst ej
      rw [List.getElem?_append_right (Nat.le_refl _), Nat.sub_self] at e1
      rw [g3, List.getElem?_append_right (Nat.le_refl _), Nat.sub_self] at e2
      cases e1
      cases e2
      exact keep ha

/-! ### take_off -/
def spTakeOff : Sp := fun vs H Q _ => ∃ (κ : Kd ShS) (S : BS) (t : ShS) (n r : Str) (c l : Int), (shelves C).is κ ∧ vs = [.ref κ.p, .str n, .str r, .int c, .int l] ∧ BookAt κ S t H ∧ n ∈ t.stand ∧ ∀ H', BookAt κ S (offS t S.deeds n r c l) H' → Fr κ H H' → Q .non H'
theorem scTakeOff : FnScope ["self", "name", "reason", "count", "last"] ["self", "name", "reason", "count", "last"] (defScope sTakeOff) := ⟨rfl, rfl, rfl, by decide +kernel, rfl, by decide +kernel, by decide +kernel⟩
theorem ok_takeOff {f : Addr} (F : FunB K "take_off" "Shelf.take_off" sTakeOff f ["self", "name", "reason", "count", "last"]) (T : STxt K C) : FnP P w K mg base 1 f ["self", "name", "reason", "count", "last"] (spTakeOff (C := C)) := by
  refine F.ok scTakeOff (fun vs H Q E h => ?_) (fun cdv A outer s H vs Q E hr h => ?_)
  · obtain ⟨κ, S, t, n, r, c, l, _, rfl, _⟩ := h
    rfl
  · obtain ⟨κ, S, t, n, r, c, l, ⟨p, dc, dl, ds, gl, hi⟩, rfl, B, hn, k⟩ := h
    have O := (shelves C).ok κ ⟨p, dc, dl, ds, gl, hi⟩
    obtain ⟨rfl, n0, n1, n2, n3⟩ := id hi
    obtain ⟨dx, h1⟩ := id B.ob
    obtain ⟨g1, ⟨ts, g2, g3, g4⟩, g5, g6⟩ := id B.ex
    have hu := hu_of hr
    refine ⟨_, pss_cons (ps_expr (pe_dpop1 (pe_fld (pv 0) rfl) (pv 1) ⟨rfl, rfl, rfl, rfl⟩))
      (pss_one (ps_expr (pe_bm PySem.F.plainAttrs_list PySem.F.slot_list_append PySem.F.type_list_append mt_append (pe_fld (pv 0) rfl) (pa_cons (pe_tup (pa_cons (pe_fld (pv 0) rfl) (pa_cons (pv 1) (pa_cons (pv 2) (pa_cons (pv 3) (pa_cons (pv 4) pa_nil)))))) pa_nil)))), ?_⟩
    have vn : valV (tabS t.stand) (Sum.inr n : Key) = some (.bl true) := by rw [valV_tabS, if_pos hn]
    refine ⟨_, rfl, p, C, dx, _, _, rfl, h1, T.cl, T.s2, f_standing, ds, rfl, .inl ⟨_, .inl g1⟩, _, rfl, _, Sum.inr n, _, g1, rfl, vn, ?_⟩
    have hl := filter_len g5 hn
    let t1 : ShS := { t with stand := t.stand.filter fun m => decide (m ≠ n) }
    have B1 : BookAt (shelfK C p dc dl ds gl) S t1 (upd H ds (.dK (dropK (tabS t.stand) (Sum.inr n : Key)))) := by
      rw [dropK_tabS]
      exact B.setStand (t' := t1) hi rfl rfl (List.filter_sublist.nodup g5) (by show t.gone.length + (t.stand.filter fun m => decide (m ≠ n)).length ≤ 1000; omega)
    have F1 : Fr (shelfK C p dc dl ds gl) H (upd H ds (.dK (dropK (tabS t.stand) (Sum.inr n : Key)))) := Fr.upd O (.inr (.inr (.inr (.inl rfl))))
    generalize upd H ds (.dK (dropK (tabS t.stand) (Sum.inr n : Key))) = H1 at B1 F1 ⊢
    obtain ⟨dx1, k1⟩ := id B1.ob
    obtain ⟨_, ⟨ts1, k2, k3, k4⟩, _, k6⟩ := id B1.ex
    refine ⟨_, rfl, p, C, dx1, _, _, rfl, k1, T.cl, T.s3, f_gone, .inl ⟨rfl, _, SqL.of k2⟩, _, rfl, p, C, dx1, _, _, rfl, k1, T.cl, T.n4, f_deeds, _, rfl, _, rfl, _, rfl, _, rfl, (by show 5 ≤ sizeLine; decide), fun a ha => ?_⟩
    have Sa : Same H1 (upd H1 a (.tup (Going.v ⟨S.deeds, n, r, c, l⟩))) := Same.upd ha
    have B2 := B1.same O Sa
    have k2' := Sa _ _ k2
    refine ⟨gl, _, _, rfl, rfl, k2', ?_, ?_⟩
    · rw [List.length_map, k3]
      refine Nat.lt_of_le_of_lt (show t.gone.length ≤ 1000 by omega) (by decide)
    · refine k _ (B2.addGone hi k2' upd_same ?_) ((F1.trans (Fr.of_same Sa)).trans (Fr.upd O (.inr (.inr (.inr (.inr rfl))))))
      show t.gone.length + 1 + (t.stand.filter fun m => decide (m ≠ n)).length ≤ 1000
      omega

/-! ### fade -/
theorem scSFade : FnScope ["self", "name", "last"] ["self", "name", "last"] (defScope sSFade) := ⟨rfl, rfl, rfl, by decide +kernel, rfl, by decide +kernel, by decide +kernel⟩
theorem ok_sFade {f g : Addr} (F : FunB K "fade" "Shelf.fade" sSFade f ["self", "name", "last"]) (T : STxt K C) (G : FnP P w K mg base 1 g ["self", "name", "reason", "count", "last"] (spTakeOff (C := C))) (M : Meth K C "take_off" g) : FnP P w K mg base 8 f ["self", "name", "last"] (spFade (shelves C) fadeS) := by
  refine F.ok scSFade (fun vs H Q E h => ?_) (fun cdv A outer s H vs Q E hr h => ?_)
  · obtain ⟨κ, S, t, n, l, _, rfl, _⟩ := h
    rfl
  · obtain ⟨κ, S, t, n, l, hκ, rfl, B, k⟩ := h
    have O := (shelves C).ok κ hκ
    obtain ⟨p, dc, dl, ds, gl, hi⟩ := id hκ
    obtain ⟨rfl, n0, n1, n2, n3⟩ := id hi
    obtain ⟨dx, h1⟩ := id B.ob
    obtain ⟨g1, _, g5, g6⟩ := id B.ex
    have hu := hu_of hr
    refine ⟨_, pss_one (ps_if (pt_cmp (pc_din hu (pv 1) (pe_fld (pv 0) rfl))) (pss_one (ps_expr (pe_methP (pv 0) T.cl M G (hr.mono (by decide)) (pa_cons (pv 1) (pa_cons pe_str (pa_cons pe_int (pa_cons (pv 2) pa_nil))))))) pss_nil), ?_⟩
    refine ⟨_, rfl, _, rfl, p, C, dx, _, _, rfl, h1, T.cl, T.s2, f_standing, ds, _, rfl, DGet.k (k := Sum.inr n) g1, _, rfl, ?_⟩
    rw [valV_tabS]
    by_cases hn : n ∈ t.stand
    · rw [if_pos hn]
      refine iteT ?_
      refine ⟨_, rfl, p, dx, _, rfl, h1, B.fno O (by decide +kernel) (by decide +kernel), _, rfl, _, rfl, ?_⟩
      refine ⟨_, S, t, n, "faded", 0, l, hκ, rfl, B, hn, fun H' B' F' => k H' ?_ F'⟩
      unfold fadeS
      rw [if_pos hn]
      exact B'
    · rw [if_neg hn]
      refine iteF ?_
      refine k H ?_ Fr.refl
      unfold fadeS
      rw [if_neg hn]
      exact B

/-! ### take_in -/
def lastE (S : BS) (n : Str) : Int := (lstE S n).getD 0
def TakeIn (S : BS) (t : ShS) (n : Str) (t' : ShS) : Prop :=
  if (t.stand.length : Int) = t.places then ∃ m ∈ t.stand, (∀ y ∈ t.stand, HT.lexLt (keyOf S y) (keyOf S m) = false) ∧ t' = inS (offS t S.deeds m "crowded" (cntE S m) (lastE S m)) n else t' = inS t n
def StandIn (S : BS) (t : ShS) : Prop := ∀ n ∈ t.stand, ∃ e, findE S.ents n = some e
def spTakeIn : Sp := fun vs H Q _ => ∃ (κ : Kd ShS) (S : BS) (t : ShS) (n : Str), (shelves C).is κ ∧ vs = [.ref κ.p, .str n] ∧ BookAt κ S t H ∧ StandIn S t ∧ n ∉ t.stand ∧ 1 ≤ t.places ∧ t.gone.length + t.stand.length < 1000 ∧ ∀ t' H', TakeIn S t n t' → BookAt κ S t' H' → Fr κ H H' → Q .non H'
theorem scTakeIn : FnScope ["self", "name", "weakest"] ["self", "name"] (defScope sTakeIn) := ⟨rfl, rfl, rfl, by decide +kernel, rfl, by decide +kernel, by decide +kernel⟩
theorem ok_takeIn {f g gs : Addr} (F : FunB K "take_in" "Shelf.take_in" sTakeIn f ["self", "name"]) (T : STxt K C) (B : Blt mg) (G : FnP P w K mg base 1 g ["self", "name", "reason", "count", "last"] (spTakeOff (C := C))) (M : Meth K C "take_off" g)
    (Gs : FnP P w K mg base 1 gs ["self", "name"] (spStrength (shelves C))) (Ms : MethV K C "strength" gs) : FnP P w K mg base 6 f ["self", "name"] (spTakeIn (C := C)) := by
  obtain ⟨fds, Gs, bs, _⟩ := Gs
  refine F.ok scTakeIn (fun vs H Q E h => ?_) (fun cdv A outer s H vs Q E hr h => ?_)
  · obtain ⟨κ, S, t, n, _, rfl, _⟩ := h
    rfl
  · obtain ⟨κ, S, t, n, hκ, rfl, B0, sin, hn, pl1, few, k⟩ := h
    have O := (shelves C).ok κ hκ
    obtain ⟨p, dc, dl, ds, gl, hi⟩ := id hκ
    obtain ⟨rfl, n0, n1, n2, n3⟩ := id hi
    obtain ⟨dx, h1⟩ := id B0.ob
    obtain ⟨g1, _, g5, g6⟩ := id B0.ex
    have hu := hu_of hr
    refine ⟨_, pss_cons (ps_if (pt_cmpR op_eq (pe_callB call_lenD rfl B.len PySem.boot_len (pa_cons (pe_fld (pv 0) rfl) pa_nil)) (pe_fld (pv 0) rfl) (nomark _))
        (pss_cons (ps_set (i := 2) scTakeIn.nd rfl (Or.inl rfl) (pe_minK rfl Gs (hr.mono (by decide)) bs rfl B.min_ (pe_fld (pv 0) rfl) (pe_bound (pv 0) T.cl Ms rfl)))
        (pss_one (ps_expr (pe_methP (pv 0) T.cl M G (hr.mono (by decide)) (pa_cons (pv 2) (pa_cons pe_str (pa_cons (pe_dget hu (pe_fld (pv 0) rfl) (pv 2) (fun _ _ => rfl)) (pa_cons (pe_dget hu (pe_fld (pv 0) rfl) (pv 2) (fun _ _ => rfl)) pa_nil)))))))) pss_nil)
      (pss_one (ps_dput hu (pe_fld (pv 0) rfl) (pv 1) pe_bl rfl)), ?_⟩
    -- len(self.standing) == self.places
    refine ⟨_, rfl, p, C, dx, _, _, rfl, h1, T.cl, T.s2, f_standing, ds, _, rfl, g1, _, rfl, p, C, dx, _, _, rfl, h1, T.cl, T.s1, f_places, rfl, _, rfl, ?_⟩
    have elen : ((tabS t.stand).length : Int) = (t.stand.length : Int) := by unfold tabS; rw [List.length_map]
    refine ite2 (fun hfull => ?_) (fun hfree => ?_)
    · have hfull : (t.stand.length : Int) = t.places := by rw [← elen]; exact V.int.inj (of_decide_eq_true hfull)
      -- min
      refine ⟨_, rfl, p, C, dx, _, _, rfl, h1, T.cl, T.s2, f_standing, _, rfl, p, dx, _, rfl, h1, B0.fno O (by decide +kernel) (by decide +kernel), fun q hq => ?_⟩
      have Sq : Same H (upd H q (.met gs p)) := Same.upd hq
      have hqq : (upd H q (.met gs p)) q = some (.met gs p) := upd_same
      have B1 := B0.same O Sq
      generalize upd H q (.met gs p) = H1 at Sq hqq B1 ⊢
      obtain ⟨k1, _, _, _⟩ := id B1.ex
      have hne : t.stand ≠ [] := fun z => by rw [z] at hfull; have : (0 : Int) = t.places := hfull; omega
      refine ⟨q, p, ds, tabS t.stand, t.stand.map fun m => (V.str m, keyOf S m), rfl, rfl, hqq, k1, ?_, ?_, ?_, ?_⟩
      · unfold tabS; rw [List.map_map, List.map_map]; rfl
      · intro z; exact hne (List.map_eq_nil_iff.mp z)
      · intro o z hz H' Q' SS hq'
        obtain ⟨m, hm, rfl⟩ := List.mem_map.mp hz
        obtain ⟨e, he⟩ := sin m hm
        have en : e.1 = m := (findE_some he).1
        subst en
        have BR : BookR (shelfK C p dc dl ds gl) S t (upd H1 ds (.frz o (.dK (tabS t.stand)))) := by
          obtain ⟨⟨dx', a1⟩, a2, a3⟩ := B1.r
          refine ⟨⟨dx', ?_⟩, ?_, ?_⟩
          · show upd H1 ds _ p = _; rw [upd_ne (Ne.symm n1.1)]; exact a1
          · show upd H1 ds _ dc = _; rw [upd_ne (Ne.symm n1.2.1)]; exact a2
          · show upd H1 ds _ dl = _; rw [upd_ne (Ne.symm n1.2.2)]; exact a3
        refine ⟨_, S, t, e, hκ, rfl, BR.same SS, he, fun q2 hq2 => ?_⟩
        have ek : keyOf S e.1 = [e.2.1, e.2.2] := by unfold keyOf; rw [he]
        have := hq' q2 hq2
        rw [show ((V.str e.1, keyOf S e.1) : V × List Int).2 = [e.2.1, e.2.2] from ek] at this
        exact this
      · intro z hz hleast H2 S2
        obtain ⟨m, hm, rfl⟩ := List.mem_map.mp hz
        have hleast : ∀ y ∈ t.stand, HT.lexLt (keyOf S y) (keyOf S m) = false := fun y hy => hleast (V.str y, keyOf S y) (List.mem_map.mpr ⟨y, hy, rfl⟩)
        obtain ⟨e, he⟩ := sin m hm
        have en : e.1 = m := (findE_some he).1
        have S12 := Sq.trans S2
        have B2 := B0.same O S12
        obtain ⟨dx2, b1⟩ := id B2.ob
        have gc : DGet H2 dc (.str m) (some (.int e.2.1)) := by
          have := DGet.k (k := Sum.inr m) B2.cn
          rw [valV_tab, he] at this
          exact this
        have gl' : DGet H2 dl (.str m) (some (.int e.2.2)) := by
          have := DGet.k (k := Sum.inr m) B2.ls
          rw [valV_tab, he] at this
          exact this
        have ec : cntE S m = e.2.1 := by unfold cntE; rw [he]; rfl
        have el : lastE S m = e.2.2 := by unfold lastE lstE; rw [he]; rfl
        refine ⟨_, rfl, p, dx2, _, rfl, b1, B2.fno O (by decide +kernel) (by decide +kernel), _, rfl, _, rfl, p, C, dx2, _, _, rfl, b1, T.cl, T.n5, f_counts, _, rfl, dc, _, rfl, gc, _, rfl, p, C, dx2, _, _, rfl, b1, T.cl, T.n6, f_lasts, _, rfl, dl, _, rfl, gl', ?_⟩
        refine ⟨_, S, t, m, "crowded", e.2.1, e.2.2, hκ, rfl, B2, hm, fun H3 B3 F3 => ?_⟩
        obtain ⟨dx3, c1⟩ := id B3.ob
        obtain ⟨c2, _, c5, c6⟩ := id B3.ex
        have hnot : n ∉ (offS t S.deeds m "crowded" e.2.1 e.2.2).stand := fun z => hn (List.mem_filter.mp z).1
        have hfl := filter_len g5 hm
        refine ⟨_, rfl, p, C, dx3, _, _, rfl, c1, T.cl, T.s2, f_standing, _, rfl, ds, _, rfl, DPut.k (k := Sum.inr n) c2 ?_, ?_⟩
        · unfold tabS
          rw [List.length_map]
          refine Nat.lt_of_le_of_lt (show (t.stand.filter fun y => decide (y ≠ m)).length ≤ 1000 by omega) (by decide)
        · rw [putK_tabS hnot]
          refine k (inS (offS t S.deeds m "crowded" e.2.1 e.2.2) n) _ ?_ (B3.setStand (t' := inS (offS t S.deeds m "crowded" e.2.1 e.2.2) n) hi rfl rfl ?_ ?_) (((Fr.of_same S12).trans F3).trans (Fr.upd O (.inr (.inr (.inr (.inl rfl))))))
          · unfold TakeIn
            rw [if_pos hfull]
            exact ⟨m, hm, hleast, by rw [ec, el]⟩
          · show ((t.stand.filter fun y => decide (y ≠ m)) ++ [n]).Nodup
            rw [List.nodup_append]
            exact ⟨List.filter_sublist.nodup g5, by simp, fun a ha b hb z => hnot (by rw [List.mem_singleton.mp hb] at z; rw [← z]; exact ha)⟩
          · show (t.gone ++ [_]).length + ((t.stand.filter fun y => decide (y ≠ m)) ++ [n]).length ≤ 1000
            rw [List.length_append, List.length_append]
            show t.gone.length + 1 + (_ + 1) ≤ 1000
            omega
    · have hfree : ¬ (t.stand.length : Int) = t.places := fun z => hfree (decide_eq_true (by rw [elen, z]))
      refine ⟨_, rfl, p, C, dx, _, _, rfl, h1, T.cl, T.s2, f_standing, _, rfl, ds, _, rfl, DPut.k (k := Sum.inr n) g1 ?_, ?_⟩
      · unfold tabS
        rw [List.length_map]
        refine Nat.lt_of_le_of_lt (show t.stand.length ≤ 1000 by omega) (by decide)
      · rw [putK_tabS hn]
        refine k (inS t n) _ ?_ (B0.setStand (t' := inS t n) hi rfl rfl ?_ ?_) (Fr.upd O (.inr (.inr (.inr (.inl rfl)))))
        · unfold TakeIn
          rw [if_neg hfree]
        · show (t.stand ++ [n]).Nodup
          rw [List.nodup_append]
          exact ⟨g5, by simp, fun a ha b hb z => hn (by rw [List.mem_singleton.mp hb] at z; rw [← z]; exact ha)⟩
        · show t.gone.length + (t.stand ++ [n]).length ≤ 1000
          rw [List.length_append]
          show t.gone.length + (t.stand.length + 1) ≤ 1000
          omega
end
end Lk

namespace Lk
open PySem L2
/-! ### what a passing of time does to what stands -/
theorem filter_ne_none {n : Str} {st : List Str} (h : n ∉ st) : (st.filter fun m => decide (m ≠ n)) = st := List.filter_eq_self.mpr fun a ha => decide_eq_true fun z => h (by rw [← z]; exact ha)
theorem fadeS_stand (d : Int) (n : Str) (l : Int) (t : ShS) : (fadeS d n l t).stand = t.stand.filter fun m => decide (m ≠ n) := by
  unfold fadeS
  by_cases h : n ∈ t.stand
  · rw [if_pos h]; rfl
  · rw [if_neg h, filter_ne_none h]
theorem fadeS_places (d : Int) (n : Str) (l : Int) (t : ShS) : (fadeS d n l t).places = t.places := by
  unfold fadeS
  by_cases h : n ∈ t.stand
  · rw [if_pos h]; rfl
  · rw [if_neg h]
def ShS.many (t : ShS) : Nat := t.gone.length + t.stand.length
theorem offS_many {t : ShS} {d : Int} {n r : Str} {c l : Int} (nd : t.stand.Nodup) (h : n ∈ t.stand) : (offS t d n r c l).many = t.many := by
  have := filter_len nd h
  unfold ShS.many offS
  dsimp only
  rw [List.length_append]
  show _ + 1 + _ = _
  omega
theorem fadeS_many {d : Int} {n : Str} {l : Int} {t : ShS} (nd : t.stand.Nodup) : (fadeS d n l t).many = t.many := by
  unfold fadeS
  by_cases h : n ∈ t.stand
  · rw [if_pos h, offS_many nd h]
  · rw [if_neg h]
theorem foldF_stand (d : Int) : ∀ (qs : List (Int × Str)) (t : ShS), (foldF fadeS d qs t).stand = t.stand.filter (fun m => decide (m ∉ qs.map (·.2))) ∧ (foldF fadeS d qs t).places = t.places ∧ (t.stand.Nodup → (foldF fadeS d qs t).many = t.many)
  | [], t => ⟨by show t.stand = _; rw [List.filter_eq_self.mpr]; intro a _; exact decide_eq_true (by simp), rfl, fun _ => rfl⟩
  | q :: r, t => by
    obtain ⟨h1, h2, h3⟩ := foldF_stand d r (fadeS d q.2 q.1 t)
    refine ⟨?_, ?_, fun nd => ?_⟩
    · show (foldF fadeS d r (fadeS d q.2 q.1 t)).stand = _
      rw [h1, fadeS_stand, List.filter_filter]
      refine List.filter_congr fun m _ => ?_
      rw [List.map_cons, Bool.eq_iff_iff, Bool.and_eq_true, decide_eq_true_eq, decide_eq_true_eq, decide_eq_true_eq, List.mem_cons]
      exact ⟨fun z y => y.elim (fun e => z.2 e) z.1, fun z => ⟨fun y => z (.inr y), fun y => z (.inl y)⟩⟩
    · show (foldF fadeS d r (fadeS d q.2 q.1 t)).places = _
      rw [h2, fadeS_places]
    · show (foldF fadeS d r (fadeS d q.2 q.1 t)).many = _
      rw [h3 (by rw [fadeS_stand]; exact List.filter_sublist.nodup nd), fadeS_many nd]
def fadeG (d : Int) (q : Int × Str) : Going := ⟨d, q.2, "faded", 0, q.1⟩
theorem foldF_gone (d : Int) : ∀ (qs : List (Int × Str)) (t : ShS), (qs.map (·.2)).Nodup → (foldF fadeS d qs t).gone = t.gone ++ (qs.filter fun q => decide (q.2 ∈ t.stand)).map (fadeG d)
  | [], t, _ => (List.append_nil _).symm
  | q :: r, t, nd => by
    rw [List.map_cons, List.nodup_cons] at nd
    have h1 := foldF_gone d r (fadeS d q.2 q.1 t) nd.2
    have hst : (r.filter fun x => decide (x.2 ∈ (fadeS d q.2 q.1 t).stand)) = r.filter fun x => decide (x.2 ∈ t.stand) := List.filter_congr fun x hx => by
      rw [fadeS_stand, Bool.eq_iff_iff, decide_eq_true_eq, decide_eq_true_eq, List.mem_filter, decide_eq_true_eq]
      exact ⟨fun z => z.1, fun z => ⟨z, fun e => nd.1 (by rw [← e]; exact List.mem_map.mpr ⟨x, hx, rfl⟩)⟩⟩
    rw [hst] at h1
    show (foldF fadeS d r (fadeS d q.2 q.1 t)).gone = _
    rw [h1]
    by_cases h : q.2 ∈ t.stand
    · rw [List.filter_cons, if_pos (decide_eq_true h), List.map_cons]
      unfold fadeS
      rw [if_pos h]
      show t.gone ++ [_] ++ _ = _
      rw [List.append_assoc]; rfl
    · rw [List.filter_cons, if_neg (by rw [decide_eq_true_eq]; exact h)]
      unfold fadeS
      rw [if_neg h]
/-- those that stay in a passing of time -/
def staysB (S : BS) (steps : Int) (m : Str) : Bool := if 0 < timesOf S steps then decide (m ∉ (goneE S.ents S.part (timesOf S steps)).map (·.1)) else true
structure Passed (S : BS) (steps : Int) (t t' : ShS) : Prop where
  st : t'.stand = t.stand.filter (staysB S steps)
  pl : t'.places = t.places
  mn : t.stand.Nodup → t'.many = t.many
  og : t.stand.Nodup → (namesOf S.ents).Nodup → ∃ qs : List (Int × Str), t'.gone = t.gone ++ qs.map (fadeG S.deeds) ∧ qs.Pairwise (fun a b => a.1 < b.1) ∧ (qs.map (·.2)).Perm (t.stand.filter fun m => !staysB S steps m) ∧ ∀ q ∈ qs, ∃ e ∈ S.ents, e.1 = q.2 ∧ e.2.2 = q.1
theorem passed_of {S : BS} {steps : Int} {t t' : ShS} (h : PassT fadeS S steps t t') : Passed S steps t t' := by
  unfold PassT at h
  by_cases hp : 0 < timesOf S steps
  · rw [if_pos hp] at h
    obtain ⟨qs, ⟨pm, od⟩, rfl⟩ := h
    obtain ⟨h1, h2, h3⟩ := foldF_stand S.deeds qs t
    have hm : ∀ m, (m ∈ qs.map (·.2)) ↔ m ∈ (goneE S.ents S.part (timesOf S steps)).map (·.1) := fun m => by
      rw [(pm.map (·.2)).mem_iff, List.map_map]
      exact Iff.rfl
    refine ⟨?_, h2, h3, fun nt ne => ?_⟩
    · rw [h1]
      refine List.filter_congr fun m _ => ?_
      unfold staysB
      rw [if_pos hp, Bool.eq_iff_iff, decide_eq_true_eq, decide_eq_true_eq, hm]
    · have nq : (qs.map (·.2)).Nodup := by
        rw [(pm.map (·.2)).nodup_iff, List.map_map]
        exact (List.filter_sublist.map _).nodup ne
      refine ⟨_, foldF_gone S.deeds qs t nq, od.filter _, ?_, fun q hq => ?_⟩
      · have e : (qs.filter fun q => decide (q.2 ∈ t.stand)).map (·.2) = (qs.map (·.2)).filter fun n => decide (n ∈ t.stand) := by rw [List.filter_map]; rfl
        rw [e]
        refine (List.perm_ext_iff_of_nodup (List.filter_sublist.nodup nq) (List.filter_sublist.nodup nt)).mpr fun a => ?_
        rw [List.mem_filter, List.mem_filter, decide_eq_true_eq, hm]
        unfold staysB
        rw [if_pos hp, Bool.not_eq_true', decide_eq_false_iff_not, Classical.not_not]
        exact ⟨fun z => ⟨z.2, z.1⟩, fun z => ⟨z.2, z.1⟩⟩
      · obtain ⟨e, he, rfl⟩ := List.mem_map.mp (pm.mem_iff.mp (List.mem_filter.mp hq).1)
        exact ⟨e, (List.mem_filter.mp he).1, rfl, rfl⟩
  · rw [if_neg hp] at h
    subst h
    have hs : ∀ a, staysB S steps a = true := fun a => by unfold staysB; rw [if_neg hp]
    refine ⟨?_, rfl, fun _ => rfl, fun _ _ => ⟨[], (List.append_nil _).symm, .nil, ?_, by simp⟩⟩
    · rw [List.filter_eq_self.mpr]
      exact fun a _ => hs a
    · rw [List.filter_eq_nil_iff.mpr (fun a _ => by rw [hs a]; decide)]
      exact List.Perm.refl _
theorem findE_pass {S : BS} {steps : Int} {m : Str} {e : Str × Int × Int} (nd : (namesOf S.ents).Nodup) (h : findE S.ents m = some e) (hs : staysB S steps m = true) : ∃ e', findE (passS S steps).ents m = some e' := by
  unfold staysB at hs
  unfold passS
  dsimp only
  by_cases hp : 0 < timesOf S steps
  · rw [if_pos hp] at hs ⊢
    have hn := of_decide_eq_true hs
    have he : stayE S.part (timesOf S steps) e = true := by
      cases q : stayE S.part (timesOf S steps) e with
      | true => rfl
      | false => exact absurd (List.mem_map.mpr ⟨e, List.mem_filter.mpr ⟨findE_mem h, by rw [q]; rfl⟩, (findE_some h).1⟩) hn
    rw [findE_age nd, h]
    exact ⟨_, if_pos (of_decide_eq_true he)⟩
  · rw [if_neg hp]
    exact ⟨e, h⟩
theorem StandIn.passed {S : BS} {steps : Int} {t t' : ShS} (h : StandIn S t) (nd : (namesOf S.ents).Nodup) (p : Passed S steps t t') : StandIn (passS S steps) t' := by
  intro m hm
  rw [p.st] at hm
  obtain ⟨h1, h2⟩ := List.mem_filter.mp hm
  obtain ⟨e, he⟩ := h m h1
  exact findE_pass nd he h2

section
variable {P : Program} {w : World} {K : PySem.W.Frag} {mg : Str → Option Value} {base : Heap} {C : Addr}
theorem nd_of {κ : Kd ShS} {S : BS} {t : ShS} {H : Hp} (hκ : (shelves C).is κ) (B : BookAt κ S t H) : t.stand.Nodup := by
  obtain ⟨p, dc, dl, ds, gl, rfl, _⟩ := hκ
  exact B.ex.nd

/-! ### ask -/
def AskT (S : BS) (n : Str) (t1 t' : ShS) : Prop := if n ∈ t1.stand then t' = t1 else TakeIn S t1 n t'
def spSAsk (C : Addr) : Sp := fun vs H Q _ => ∃ (κ : Kd ShS) (S : BS) (t : ShS) (n : Str) (w : Int), (shelves C).is κ ∧ vs = [.ref κ.p, .str n, .int w] ∧ BookAt κ S t H ∧ Fit S ∧ Fit (passS (deedS S) 1) ∧ GoodName n ∧ 1 ≤ w ∧ w ≤ 10 ^ 30 ∧ StandIn S t ∧ 1 ≤ t.places ∧ t.many < 1000 ∧
  ∀ t1 t' H', Passed (deedS S) 1 t t1 → AskT (passS (deedS S) 1) n t1 t' → BookAt κ (askS S n w) t' H' → Fr κ H H' → Q (.bl (decide (n ∈ t1.stand))) H'
theorem scSAsk : FnScope ["self", "name", "weight", "met"] ["self", "name", "weight"] (defScope sSAsk) := ⟨rfl, rfl, rfl, by decide +kernel, rfl, by decide +kernel, by decide +kernel⟩
theorem ok_sAsk {f gb gg gt : Addr} {fd : FuncData} {ds : List Value} (F : FunD K "ask" "Shelf.ask" sSAsk f fd ds) (T : STxt K C) (Gb : FnP P w K mg base 16 gb ["self", "name", "weight"] (spBeginAsk (shelves C) fadeS)) (Mb : Meth K C "begin_ask" gb)
    (Gg : FnP P w K mg base 1 gg ["self", "name", "weight"] (spGrow (shelves C))) (Mg : Meth K C "grow" gg) (Gt : FnP P w K mg base 6 gt ["self", "name"] (spTakeIn (C := C))) (Mt : Meth K C "take_in" gt) : FnOk P w K mg base CX0 18 f fd ["self", "name", "weight"] (spSAsk C) := by
  refine F.ok scSAsk (fun vs H Q E h => ?_) (fun cdv A outer s H vs Q E hr h => ?_)
  · obtain ⟨κ, S, t, n, w, _, rfl, _⟩ := h
    rfl
  · obtain ⟨κ, S, t, n, w, hκ, rfl, B0, fit, fit1, gn1, w1, w2, sin, pl1, few, k⟩ := h
    have hC := (shelves C).cls κ hκ
    have O := (shelves C).ok κ hκ
    have hu := hu_of hr
    obtain ⟨dx, h1⟩ := B0.ob
    rw [hC] at h1
    refine ⟨_, pss_cons (ps_expr (pe_methP (pv 0) T.cl Mb Gb (hr.mono (by decide)) (pa_cons (pv 1) (pa_cons (pv 2) pa_nil))))
      (pss_cons (ps_set (i := 3) scSAsk.nd rfl (Or.inl rfl) (pe_cmp (pc_din hu (pv 1) (pe_fld (pv 0) rfl))))
      (pss_cons (ps_if (pt_not (pt_val (pv 3))) (pss_one (ps_expr (pe_methP (pv 0) T.cl Mt Gt (hr.mono (by decide)) (pa_cons (pv 1) pa_nil)))) pss_nil)
      (pss_cons (ps_expr (pe_methP (pv 0) T.cl Mg Gg (hr.mono (by decide)) (pa_cons (pv 1) (pa_cons (pv 2) pa_nil))))
      (pss_one (ps_ret (pv 3)))))), ?_⟩
    refine ⟨_, rfl, κ.p, dx, _, rfl, h1, B0.fno O (by decide +kernel) (by decide +kernel), _, rfl, _, rfl, ?_⟩
    refine ⟨κ, S, t, n, w, hκ, rfl, B0, fit, gn1, w1, w2, fun t1 H1 pt b1 f1 => ?_⟩
    have pd := passed_of pt
    have sin1 : StandIn (passS (deedS S) 1) t1 := StandIn.passed (S := deedS S) sin fit.nd pd
    have few1 : t1.many < 1000 := by rw [pd.mn (nd_of hκ B0)]; exact few
    obtain ⟨dx1, g1⟩ := b1.ob
    rw [hC] at g1
    have hd1 : ∃ (ds : Addr) (x y : V), κ.ex t1 = [(("places" : Str), x), (("standing" : Str), V.ref ds), (("gone" : Str), y)] ∧ H1 ds = some (.dK (tabS t1.stand)) := by
      obtain ⟨p, dc, dl, ds, gl, rfl, _⟩ := id hκ
      exact ⟨ds, _, _, rfl, b1.ex.st⟩
    obtain ⟨ds, x, y, ex, hds⟩ := hd1
    rw [ex] at g1
    refine ⟨_, rfl, _, rfl, κ.p, C, dx1, _, _, rfl, g1, T.cl, T.s2, f_standing, ds, _, rfl, DGet.k (k := Sum.inr n) hds, ?_⟩
    rw [valV_tabS]
    have grow : ∀ t' H2, AskT (passS (deedS S) 1) n t1 t' → BookAt κ (passS (deedS S) 1) t' H2 → Fr κ H H2 → ∀ H3, BookAt κ (askS S n w) t' H3 → Fr κ H2 H3 → Q (.bl (decide (n ∈ t1.stand))) H3 := fun t' H2 at_ b2 f2 H3 b3 f3 => k t1 t' H3 pd at_ b3 (f2.trans f3)
    by_cases hn : n ∈ t1.stand
    · rw [if_pos hn]
      refine ⟨_, rfl, _, rfl, ?_⟩
      refine iteF ?_
      have g1' := b1.ob
      obtain ⟨dx2, g2⟩ := g1'
      rw [hC] at g2
      refine ⟨_, rfl, κ.p, dx2, _, rfl, g2, b1.fno O (by decide +kernel) (by decide +kernel), _, rfl, _, rfl, ?_⟩
      refine ⟨κ, passS (deedS S) 1, t1, n, w, hκ, rfl, b1, fit1.nd, fit1.few, fun H3 b3 f3 => ⟨_, rfl, ?_⟩⟩
      have := grow t1 H1 (by unfold AskT; rw [if_pos hn]) b1 f1 H3 b3 f3
      rw [decide_eq_true hn] at this
      exact this
    · rw [if_neg hn]
      refine ⟨_, rfl, _, rfl, ?_⟩
      refine iteT ?_
      obtain ⟨dx2, g2⟩ := b1.ob
      rw [hC] at g2
      refine ⟨_, rfl, κ.p, dx2, _, rfl, g2, b1.fno O (by decide +kernel) (by decide +kernel), _, rfl, ?_⟩
      refine ⟨κ, passS (deedS S) 1, t1, n, hκ, rfl, b1, sin1, hn, by rw [pd.pl]; exact pl1, few1, fun t' H2 ti b2 f2 => ?_⟩
      obtain ⟨dx3, g3⟩ := b2.ob
      rw [hC] at g3
      refine ⟨_, rfl, κ.p, dx3, _, rfl, g3, b2.fno O (by decide +kernel) (by decide +kernel), _, rfl, _, rfl, ?_⟩
      refine ⟨κ, passS (deedS S) 1, t', n, w, hκ, rfl, b2, fit1.nd, fit1.few, fun H3 b3 f3 => ⟨_, rfl, ?_⟩⟩
      have := grow t' H2 (by unfold AskT; rw [if_neg hn]; exact ti) b2 (f1.trans f2) H3 b3 f3
      rw [decide_eq_false hn] at this
      exact this

/-! ### drop -/
def DropT (S : BS) (n : Str) (t t' : ShS) : Prop := t' = if n ∈ t.stand then offS t (S.deeds + 1) n "dropped" (cntE S n) (lastE S n) else t
def spSDrop (C : Addr) : Sp := fun vs H Q _ => ∃ (κ : Kd ShS) (S : BS) (t : ShS) (n : Str), (shelves C).is κ ∧ vs = [.ref κ.p, .str n] ∧ BookAt κ S t H ∧ GoodName n ∧ StandIn S t ∧
  ∀ t' H', DropT S n t t' → BookAt κ (deedS S) t' H' → Fr κ H H' → Q (.bl (decide (n ∈ t.stand))) H'
theorem scSDrop : FnScope ["self", "name", "stood"] ["self", "name"] (defScope sSDrop) := ⟨rfl, rfl, rfl, by decide +kernel, rfl, by decide +kernel, by decide +kernel⟩
theorem ok_sDrop {f gb gt : Addr} (F : FunB K "drop" "Shelf.drop" sSDrop f ["self", "name"]) (T : STxt K C) (Gb : FnP P w K mg base 4 gb ["self", "name"] (spBeginDrop (shelves C))) (Mb : Meth K C "begin_drop" gb)
    (Gt : FnP P w K mg base 1 gt ["self", "name", "reason", "count", "last"] (spTakeOff (C := C))) (Mt : Meth K C "take_off" gt) : FnP P w K mg base 6 f ["self", "name"] (spSDrop C) := by
  refine F.ok scSDrop (fun vs H Q E h => ?_) (fun cdv A outer s H vs Q E hr h => ?_)
  · obtain ⟨κ, S, t, n, _, rfl, _⟩ := h
    rfl
  · obtain ⟨κ, S, t, n, hκ, rfl, B0, gn1, sin, k⟩ := h
    have hC := (shelves C).cls κ hκ
    have O := (shelves C).ok κ hκ
    have hu := hu_of hr
    obtain ⟨dx, h1⟩ := B0.ob
    rw [hC] at h1
    refine ⟨_, pss_cons (ps_expr (pe_methP (pv 0) T.cl Mb Gb (hr.mono (by decide)) (pa_cons (pv 1) pa_nil)))
      (pss_cons (ps_set (i := 2) scSDrop.nd rfl (Or.inl rfl) (pe_cmp (pc_din hu (pv 1) (pe_fld (pv 0) rfl))))
      (pss_cons (ps_if (pt_val (pv 2)) (pss_one (ps_expr (pe_methP (pv 0) T.cl Mt Gt (hr.mono (by decide)) (pa_cons (pv 1) (pa_cons pe_str (pa_cons (pe_dget hu (pe_fld (pv 0) rfl) (pv 1) (fun _ _ => rfl)) (pa_cons (pe_dget hu (pe_fld (pv 0) rfl) (pv 1) (fun _ _ => rfl)) pa_nil))))))) pss_nil)
      (pss_one (ps_ret (pv 2))))), ?_⟩
    refine ⟨_, rfl, κ.p, dx, _, rfl, h1, B0.fno O (by decide +kernel) (by decide +kernel), _, rfl, ?_⟩
    refine ⟨κ, S, t, n, hκ, rfl, B0, gn1, fun H1 b1 f1 => ?_⟩
    obtain ⟨dx1, g1⟩ := b1.ob
    rw [hC] at g1
    have g0 := g1
    have hd1 : ∃ (ds : Addr) (x y : V), κ.ex t = [(("places" : Str), x), (("standing" : Str), V.ref ds), (("gone" : Str), y)] ∧ H1 ds = some (.dK (tabS t.stand)) := by
      obtain ⟨p, dc, dl, ds, gl, rfl, _⟩ := id hκ
      exact ⟨ds, _, _, rfl, b1.ex.st⟩
    obtain ⟨ds, x, y, ex, hds⟩ := hd1
    rw [ex] at g1
    refine ⟨_, rfl, _, rfl, κ.p, C, dx1, _, _, rfl, g1, T.cl, T.s2, f_standing, ds, _, rfl, DGet.k (k := Sum.inr n) hds, ?_⟩
    rw [valV_tabS]
    by_cases hn : n ∈ t.stand
    · rw [if_pos hn]
      refine ⟨_, rfl, _, rfl, ?_⟩
      refine iteT ?_
      obtain ⟨e, he⟩ := sin n hn
      have gc : DGet H1 κ.dc (.str n) (some (.int e.2.1)) := by
        have := DGet.k (k := Sum.inr n) b1.cn
        rw [valV_tab, show (deedS S).ents = S.ents from rfl, he] at this
        exact this
      have gl' : DGet H1 κ.dl (.str n) (some (.int e.2.2)) := by
        have := DGet.k (k := Sum.inr n) b1.ls
        rw [valV_tab, show (deedS S).ents = S.ents from rfl, he] at this
        exact this
      have ec : cntE S n = e.2.1 := by unfold cntE; rw [he]; rfl
      have el : lastE S n = e.2.2 := by unfold lastE lstE; rw [he]; rfl
      refine ⟨_, rfl, κ.p, dx1, _, rfl, g0, b1.fno O (by decide +kernel) (by decide +kernel), _, rfl, _, rfl, κ.p, C, dx1, _, _, rfl, g0, T.cl, T.n5, f_counts, _, rfl, κ.dc, _, rfl, gc, _, rfl, κ.p, C, dx1, _, _, rfl, g0, T.cl, T.n6, f_lasts, _, rfl, κ.dl, _, rfl, gl', ?_⟩
      refine ⟨κ, deedS S, t, n, "dropped", e.2.1, e.2.2, hκ, rfl, b1, hn, fun H2 b2 f2 => ⟨_, rfl, ?_⟩⟩
      have := k _ H2 (by unfold DropT; rw [if_pos hn, ec, el]; rfl) b2 (f1.trans f2)
      rw [decide_eq_true hn] at this
      exact this
    · rw [if_neg hn]
      refine ⟨_, rfl, _, rfl, ?_⟩
      refine iteF ?_
      refine ⟨_, rfl, ?_⟩
      have := k t H1 (by unfold DropT; rw [if_neg hn]) b1 f1
      rw [decide_eq_false hn] at this
      exact this

/-! ### names -/
def spSNames (C : Addr) : Sp := fun vs H Q _ => ∃ (κ : Kd ShS) (S : BS) (t : ShS), (shelves C).is κ ∧ vs = [.ref κ.p] ∧ BookAt κ S t H ∧ Sortable S t.stand ∧ ∀ l H' ys, H l = none → Same H H' → H' l = some (.lst (ys.map V.str)) → Weak S t.stand ys → Q (.ref l) H'
theorem scSNames : FnScope ["self"] ["self"] (defScope sSNames) := ⟨rfl, rfl, rfl, by decide +kernel, rfl, by decide +kernel, by decide +kernel⟩
theorem ok_sNames {f g : Addr} (F : FunB K "names" "Shelf.names" sSNames f ["self"]) (T : STxt K C) (G : FnP P w K mg base 6 g ["self", "names"] (spInOrder (shelves C) K)) (M : Meth K C "in_order" g) : FnP P w K mg base 8 f ["self"] (spSNames C) := by
  refine F.ok scSNames (fun vs H Q E h => ?_) (fun cdv A outer s H vs Q E hr h => ?_)
  · obtain ⟨κ, S, t, _, rfl, _⟩ := h
    rfl
  · obtain ⟨κ, S, t, hκ, rfl, B1, hs, k⟩ := h
    have O := (shelves C).ok κ hκ
    obtain ⟨p, dc, dl, ds, gl, hi⟩ := id hκ
    obtain ⟨rfl, n0, n1, n2, n3⟩ := id hi
    obtain ⟨dx, h1⟩ := id B1.ob
    refine ⟨_, pss_one (ps_ret (pe_methP (pv 0) T.cl M G (hr.mono (by decide)) (pa_cons (pe_fld (pv 0) rfl) pa_nil))), ?_⟩
    refine ⟨_, rfl, p, dx, _, rfl, h1, B1.fno O (by decide +kernel) (by decide +kernel), _, rfl, p, C, dx, _, _, rfl, h1, T.cl, T.s2, f_standing, ?_⟩
    refine ⟨_, S, t, _, t.stand, hκ, rfl, B1, ⟨ds, rfl, .inr ⟨_, .inl B1.ex.st, ?_⟩⟩, hs, k⟩
    unfold tabS
    rw [List.map_map]
    rfl

/-! ### check_places, __init__ -/
def spCkPlaces : Sp := fun vs H Q _ => ∃ x : Int, vs = [.int x] ∧ 1 ≤ x ∧ x ≤ 1000 ∧ Q .non H
theorem scCkPlaces : FnScope ["places"] ["places"] (defScope sCkPlaces) := ⟨rfl, rfl, rfl, by decide +kernel, rfl, by decide +kernel, by decide +kernel⟩
theorem ok_ckPlaces {f g : Addr} (F : FunB K "check_places" "check_places" sCkPlaces f ["places"]) (G : FnP P w K mg base 1 g ["value", "least", "most"] spWhole) (hg : mg "is_whole_within" = some (.ref g)) : FnP P w K mg base 2 f ["places"] spCkPlaces := by
  refine F.ok scCkPlaces (fun vs H Q E h => ?_) (fun cdv A outer s H vs Q E hr h => ?_)
  · obtain ⟨x, rfl, _⟩ := h
    rfl
  · obtain ⟨x, rfl, g1, g2, k⟩ := h
    refine ⟨_, pss_one (ps_if (pt_not (pt_val (pe_callP G hr hg (pa_cons (pv 0) (pa_cons pe_int (pa_cons pe_int pa_nil)))))) pss_never pss_nil), ?_⟩
    refine ⟨_, rfl, x, _, _, rfl, _, rfl, ?_⟩
    rw [decide_eq_true (show (1 : Int) ≤ x from g1), decide_eq_true (show x ≤ 1000 from g2)]
    exact iteF k
def spSInit (C : Addr) : Sp := fun vs H Q _ => ∃ (p dx : Addr) (places span part : Int), vs = [.ref p, .int places, .int span, .int part] ∧ H p = some (.ins C dx []) ∧ 1 ≤ places ∧ places ≤ 1000 ∧ 1 ≤ span ∧ span ≤ 10 ^ 20 ∧ 2 ≤ part ∧ part ≤ 10 ^ 30 ∧
  ∀ κ H', (shelves C).is κ → κ.p = p → (∀ b, κ.own b → b = p ∨ H b = none) → BookAt κ (startS span part) ⟨places, [], []⟩ H' → (∀ b o, H b = some o → b ≠ p → H' b = some o) → Q .non H'
theorem scSInit : FnScope ["self", "places", "span", "part"] ["self", "places", "span", "part"] (defScope sSInit) := ⟨rfl, rfl, rfl, by decide +kernel, rfl, by decide +kernel, by decide +kernel⟩
theorem ok_sInit {f gp gi C0 : Addr} (F : FunB K "__init__" "Shelf.__init__" sSInit f ["self", "places", "span", "part"]) (T : STxt K C) (Gp : FnP P w K mg base 2 gp ["places"] spCkPlaces) (hgp : mg "check_places" = some (.ref gp))
    (hC0 : mg "Book" = some (.ref C0)) (cm : CMeth K C0 "__init__" gi) (Gi : FnP P w K mg base 4 gi ["self", "span", "part"] (spInit C)) : FnP P w K mg base 6 f ["self", "places", "span", "part"] (spSInit C) := by
  refine F.ok scSInit (fun vs H Q E h => ?_) (fun cdv A outer s H vs Q E hr h => ?_)
  · obtain ⟨p, dx, places, span, part, rfl, _⟩ := h
    rfl
  · obtain ⟨p, dx, places, span, part, rfl, hp, l1, l2, g1, g2, g3, g4, k⟩ := h
    refine ⟨_, pss_cons (ps_expr (pe_callP Gp (hr.mono (by decide)) hgp (pa_cons (pv 1) pa_nil)))
      (pss_cons (ps_expr (pe_clsP hC0 cm Gi (hr.mono (by decide)) (pa_cons (pv 0) (pa_cons (pv 2) (pa_cons (pv 3) pa_nil)))))
      (pss_cons (ps_fld (pv 0) (pv 1) rfl) (pss_cons (ps_fld (pv 0) pe_dnewK rfl) (pss_one (ps_fld (pv 0) (pe_lst pa_nil) rfl))))), ?_⟩
    refine ⟨_, rfl, places, rfl, l1, l2, ?_⟩
    refine ⟨_, rfl, _, rfl, _, rfl, ?_⟩
    refine ⟨p, dx, span, part, rfl, hp, g1, g2, g3, g4, fun dc dl H1 hdc hdl n0 h1 hc hl k1 => ?_⟩
    refine ⟨_, rfl, _, rfl, p, C, dx, _, rfl, h1, T.cl, T.s1, (by show 6 < 1000; decide), ?_⟩
    have npc : p ≠ dc := ne_of_none hp hdc
    have npl : p ≠ dl := ne_of_none hp hdl
    intro ds hds
    have nps : p ≠ ds := ne_of_none upd_same hds
    have ncs : dc ≠ ds := ne_of_none (by rw [upd_ne npc.symm]; exact hc) hds
    have nls : dl ≠ ds := ne_of_none (by rw [upd_ne npl.symm]; exact hl) hds
    refine ⟨_, rfl, p, C, dx, _, rfl, (by rw [upd_ne nps]; exact upd_same), T.cl, T.s2, (by show 7 < 1000; decide), ?_⟩
    refine ⟨by show 0 ≤ sizeLine; decide, fun gl hgl => ?_⟩
    have npg : p ≠ gl := ne_of_none upd_same hgl
    have ncg : dc ≠ gl := ne_of_none (o := .dK []) (by rw [upd_ne npc.symm, upd_ne ncs, upd_ne npc.symm]; exact hc) hgl
    have nlg : dl ≠ gl := ne_of_none (o := .dK []) (by rw [upd_ne npl.symm, upd_ne nls, upd_ne npl.symm]; exact hl) hgl
    have nsg : ds ≠ gl := ne_of_none (o := .dK []) (by rw [upd_ne nps.symm, upd_same]) hgl
    refine ⟨_, rfl, p, C, dx, _, rfl, (by rw [upd_ne npg]; exact upd_same), T.cl, T.s3, (by show 8 < 1000; decide), ?_⟩
    have old : ∀ b, H1 b = none → b ≠ p → H b = none := fun b e ne => by
      cases q : H b with
      | none => rfl
      | some o => rw [k1 b o q ne] at e; cases e
    have ds0 : H ds = none := old ds (by rw [upd_ne nps.symm] at hds; exact hds) nps.symm
    have gl0 : H gl = none := old gl (by rw [upd_ne npg.symm, upd_ne nsg.symm, upd_ne npg.symm] at hgl; exact hgl) npg.symm
    have hi : ShIs C (shelfK C p dc dl ds gl) p dc dl ds gl := ⟨rfl, n0, ⟨nps.symm, ncs.symm, nls.symm⟩, ⟨npg.symm, ncg.symm, nlg.symm⟩, nsg⟩
    refine k (shelfK C p dc dl ds gl) _ ⟨p, dc, dl, ds, gl, hi⟩ rfl ?_ ?_ ?_
    · rintro b (rfl | rfl | rfl | rfl | rfl)
      · exact .inl rfl
      · exact .inr hdc
      · exact .inr hdl
      · exact .inr ds0
      · exact .inr gl0
    · refine ⟨⟨dx, upd_same⟩, ?_, ?_, ⟨?_, ⟨[], ?_, rfl, fun j a g e => by simp at e⟩, List.nodup_nil, by show 0 ≤ 1000; decide⟩, ?_⟩
      · show upd _ p _ dc = _
        rw [upd_ne npc.symm, upd_ne ncg, upd_ne npc.symm, upd_ne ncs, upd_ne npc.symm]; exact hc
      · show upd _ p _ dl = _
        rw [upd_ne npl.symm, upd_ne nlg, upd_ne npl.symm, upd_ne nls, upd_ne npl.symm]; exact hl
      · show upd _ p _ ds = _
        rw [upd_ne nps.symm, upd_ne nsg, upd_ne nps.symm, upd_same]; rfl
      · show upd _ p _ gl = _
        rw [upd_ne npg.symm, upd_same]; rfl
      · rintro b (rfl | rfl | rfl | rfl | rfl)
        · exact ⟨_, upd_same, by intro xs z; cases z⟩
        · exact ⟨.dK [], by rw [upd_ne npc.symm, upd_ne ncg, upd_ne npc.symm, upd_ne ncs, upd_ne npc.symm]; exact hc, by intro xs z; cases z⟩
        · exact ⟨.dK [], by rw [upd_ne npl.symm, upd_ne nlg, upd_ne npl.symm, upd_ne nls, upd_ne npl.symm]; exact hl, by intro xs z; cases z⟩
        · exact ⟨.dK [], by rw [upd_ne nps.symm, upd_ne nsg, upd_ne nps.symm, upd_same], by intro xs z; cases z⟩
        · exact ⟨.lst [], by rw [upd_ne npg.symm, upd_same], by intro xs z; cases z⟩
    · intro b o e hb
      rw [upd_ne hb, upd_ne (ne_of_none e gl0), upd_ne hb, upd_ne (ne_of_none e ds0), upd_ne hb]
      exact k1 b o e hb
end
end Lk

namespace Lk
open PySem L2
/-! ### the state of a shelf's book, deed by deed -/
theorem passS_names {S : BS} {st : Int} {n : Str} (h : n ∈ namesOf (passS S st).ents) : n ∈ namesOf S.ents := by
  unfold passS at h
  dsimp only at h
  by_cases hp : 0 < timesOf S st
  · rw [if_pos hp] at h; exact ageE_names h
  · rw [if_neg hp] at h; exact h
theorem stepB_names {S : BS} {ns : List Str} {d : Dd} (gd : GoodD ns d) (h : ∀ n ∈ namesOf S.ents, n ∈ ns) : ∀ n ∈ namesOf (stepB S d).ents, n ∈ ns := by
  intro n hn
  cases d with
  | rest z => exact h n (passS_names (S := deedS S) hn)
  | drop m => exact h n hn
  | ask m w =>
    have hn : n ∈ namesOf (growE (passS (deedS S) 1).ents m w _) := hn
    rw [growE_names] at hn
    by_cases q : m ∈ namesOf (passS (deedS S) 1).ents
    · rw [if_pos q] at hn; exact h n (passS_names (S := deedS S) hn)
    · rw [if_neg q] at hn
      rcases List.mem_append.mp hn with z | z
      · exact h n (passS_names (S := deedS S) z)
      · rw [List.mem_singleton.mp z]; exact gd.1
structure Now (ns : List Str) (sp pt : Int) (k : Nat) (S : BS) : Prop where
  co : Core S k
  dk : S.deeds = (k : Int)
  t0 : 0 ≤ S.time
  es : S.span = sp
  ep : S.part = pt
  nm : ∀ n ∈ namesOf S.ents, n ∈ ns
theorem Now.start (ns : List Str) (sp pt : Int) : Now ns sp pt 0 (startS sp pt) :=
  ⟨⟨List.nodup_nil, by simp [startS], by simp [startS], Nat.zero_le _⟩, rfl, Int.le_refl _, rfl, rfl, by simp [startS, namesOf]⟩
theorem Now.step {ns : List Str} {sp pt : Int} {k : Nat} {S : BS} (h : Now ns sp pt k S) {d : Dd} (gd : GoodD ns d) : Now ns sp pt (k + 1) (stepB S d) := by
  have cd : Core (deedS S) k := h.co.of rfl
  have ed : S.deeds + 1 = ((k + 1 : Nat) : Int) := by rw [h.dk]; push_cast; rfl
  have ht := h.t0
  refine ⟨?_, ?_, ?_, ?_, ?_, stepB_names gd h.nm⟩
  · cases d with
    | rest z => exact (cd.pass (st := z)).up
    | drop m => exact cd.up
    | ask m w =>
      have := (cd.pass (st := 1)).grow (n := m) gd.2.1 gd.2.2
      rw [← ed] at this
      exact this
  · cases d <;> exact ed
  · cases d with
    | rest z => show 0 ≤ S.time + z; have := gd.1; omega
    | drop m => exact ht
    | ask m w => show 0 ≤ S.time + 1; omega
  · cases d <;> exact h.es
  · cases d <;> exact h.ep
theorem few_of {S : BS} {ns : List Str} (nd : (namesOf S.ents).Nodup) (nm : ∀ n ∈ namesOf S.ents, n ∈ ns) (hl : ns.length ≤ 30) : S.ents.length < 64 := by
  have := PySem.length_le_of_nodup_of_subset _ _ nd nm
  unfold namesOf at this
  rw [List.length_map] at this
  omega
theorem fit_of {S : BS} {ns : List Str} {k : Nat} (c : Core S k) (hk : k ≤ 1000) (s1 : 1 ≤ S.span) (s2 : S.span ≤ 10 ^ 20) (p1 : 2 ≤ S.part) (p2 : S.part ≤ 10 ^ 30) (t0 : 0 ≤ S.time) (nm : ∀ n ∈ namesOf S.ents, n ∈ ns) (hl : ns.length ≤ 30) : Fit S :=
  ⟨s1, s2, p1, p2, t0, c.nd, fun e he => ⟨(c.pos e he).1, by have := (c.pos e he).2.1; omega⟩, c.inj, few_of c.nd nm hl⟩
theorem Now.fit {ns : List Str} {sp pt : Int} {k : Nat} {S : BS} (h : Now ns sp pt k S) (hk : k ≤ 1000) (s1 : 1 ≤ sp) (s2 : sp ≤ 10 ^ 20) (p1 : 2 ≤ pt) (p2 : pt ≤ 10 ^ 30) (hl : ns.length ≤ 30) : Fit S :=
  fit_of h.co hk (by rw [h.es]; exact s1) (by rw [h.es]; exact s2) (by rw [h.ep]; exact p1) (by rw [h.ep]; exact p2) h.t0 h.nm hl
theorem Now.fit1 {ns : List Str} {sp pt : Int} {k : Nat} {S : BS} (h : Now ns sp pt k S) (hk : k ≤ 1000) (s1 : 1 ≤ sp) (s2 : sp ≤ 10 ^ 20) (p1 : 2 ≤ pt) (p2 : pt ≤ 10 ^ 30) (hl : ns.length ≤ 30) : Fit (passS (deedS S) 1) := by
  have cd : Core (deedS S) k := h.co.of rfl
  have ht := h.t0
  exact fit_of (cd.pass (st := 1)) hk (by show 1 ≤ S.span; rw [h.es]; exact s1) (by show S.span ≤ _; rw [h.es]; exact s2) (by show 2 ≤ S.part; rw [h.ep]; exact p1) (by show S.part ≤ _; rw [h.ep]; exact p2) (by show 0 ≤ S.time + 1; omega) (fun n hn => h.nm n (passS_names (S := deedS S) hn)) hl
theorem stand_names {S : BS} {t : ShS} {ns : List Str} (h : StandIn S t) (nm : ∀ n ∈ namesOf S.ents, n ∈ ns) : ∀ n ∈ t.stand, n ∈ ns := fun n hn => by
  obtain ⟨e, he⟩ := h n hn
  exact nm n (List.mem_map.mpr ⟨e, findE_mem he, (findE_some he).1⟩)
theorem sortable_stand {S : BS} {t : ShS} {ns : List Str} {k : Nat} (h : StandIn S t) (c : Core S k) (nd : t.stand.Nodup) (nm : ∀ n ∈ namesOf S.ents, n ∈ ns) (hl : ns.length ≤ 30) : Sortable S t.stand :=
  ⟨h, by have := PySem.length_le_of_nodup_of_subset _ _ nd (stand_names h nm); omega, nd, c.inj⟩

/-! ### strengths -/
theorem lexLt_asy : ∀ {a b : List Int}, HT.lexLt a b = true → HT.lexLt b a = false
  | [], [], h => by cases h
  | [], _ :: _, _ => rfl
  | _ :: _, [], h => by cases h
  | x :: r, y :: s, h => by
    rw [HT.lexLt_cons] at h ⊢
    by_cases e : x = y
    · rw [if_pos e] at h; rw [if_pos e.symm]; exact lexLt_asy h
    · rw [if_neg e] at h; rw [if_neg (fun z => e z.symm)]
      have := of_decide_eq_true h
      exact decide_eq_false (by omega)

/-! ### a deed at a shelf -/
def DeedT (S : BS) (d : Dd) (t t' : ShS) (v : V) : Prop := match d with
  | .ask n _ => ∃ t1, Passed (deedS S) 1 t t1 ∧ AskT (passS (deedS S) 1) n t1 t' ∧ v = .bl (decide (n ∈ t1.stand))
  | .rest k => Passed (deedS S) k t t' ∧ v = .int (timesOf S k)
  | .drop n => DropT S n t t' ∧ v = .bl (decide (n ∈ t.stand))
def spDoS (C : Addr) : Sp := fun vs H Q _ => ∃ (κ : Kd ShS) (S : BS) (t : ShS) (q : Addr) (d : Dd) (ns : List Str), (shelves C).is κ ∧ vs = [.ref κ.p, .ref q] ∧ H q = some (.tup (Dd.v d)) ∧ BookAt κ S t H ∧ Fit S ∧ Fit (passS (deedS S) 1) ∧ GoodD ns d ∧ (∀ n ∈ ns, GoodName n) ∧ StandIn S t ∧ 1 ≤ t.places ∧ t.many < 1000 ∧
  ∀ t' v H', DeedT S d t t' v → BookAt κ (stepB S d) t' H' → Fr κ H H' → Q v H'
theorem doS_do {C : Addr} {vs : List V} {H : Hp} {Q : VK} {E : XK} (h : spDoS C vs H Q E) : spDo C (spSAsk C) (spRest (shelves C) fadeS) (spSDrop C) vs H Q E := by
  obtain ⟨κ, S, t, q, d, ns, hκ, rfl, hq, B, fit, fit1, gd, gn, sin, pl, few, k⟩ := h
  obtain ⟨dx, h1⟩ := B.ob
  have hC := (shelves C).cls κ hκ
  have O := (shelves C).ok κ hκ
  rw [hC] at h1
  refine ⟨κ.p, q, dx, d, _, rfl, hq, h1, B.fno O (by decide +kernel) (by decide +kernel), B.fno O (by decide +kernel) (by decide +kernel), B.fno O (by decide +kernel) (by decide +kernel), ?_⟩
  cases d with
  | ask n w => exact ⟨κ, S, t, n, w, hκ, rfl, B, fit, fit1, gn n gd.1, gd.2.1, gd.2.2, sin, pl, few, fun t1 t' H' p a b f => k t' _ H' ⟨t1, p, a, rfl⟩ b f⟩
  | rest z => exact ⟨κ, S, t, z, hκ, rfl, B, fit, gd.1, gd.2, fun t' H' p b f => k t' _ H' ⟨passed_of p, rfl⟩ b f⟩
  | drop n => exact ⟨κ, S, t, n, hκ, rfl, B, gn n gd, sin, fun t' H' p b f => k t' _ H' ⟨p, rfl⟩ b f⟩
theorem inS_many {t : ShS} {n : Str} : (inS t n).many = t.many + 1 := by
  unfold ShS.many inS
  dsimp only
  rw [List.length_append]
  show _ + (_ + 1) = _
  omega
theorem askT_many {S : BS} {n : Str} {t t' : ShS} (nd : t.stand.Nodup) (h : AskT S n t t') : t'.many ≤ t.many + 1 := by
  unfold AskT at h
  by_cases hn : n ∈ t.stand
  · rw [if_pos hn] at h; rw [h]; omega
  · rw [if_neg hn] at h
    unfold TakeIn at h
    by_cases hf : (t.stand.length : Int) = t.places
    · rw [if_pos hf] at h
      obtain ⟨m, hm, _, rfl⟩ := h
      rw [inS_many, offS_many nd hm]
      omega
    · rw [if_neg hf] at h
      rw [h, inS_many]
      omega
theorem dropT_stand {S : BS} {n : Str} {t t' : ShS} (h : DropT S n t t') : t'.stand = t.stand.filter (fun m => decide (m ≠ n)) ∧ t'.places = t.places ∧ (t.stand.Nodup → t'.many = t.many) := by
  unfold DropT at h
  by_cases hn : n ∈ t.stand
  · rw [if_pos hn] at h; subst h
    exact ⟨rfl, rfl, fun nd => offS_many nd hn⟩
  · rw [if_neg hn] at h; subst h
    exact ⟨(filter_ne_none hn).symm, rfl, fun _ => rfl⟩
theorem deedT_many {S : BS} {d : Dd} {t t' : ShS} {v : V} (nd : t.stand.Nodup) (h : DeedT S d t t' v) : t'.many ≤ t.many + 1 := by
  cases d with
  | ask n w =>
    obtain ⟨t1, p, a, _⟩ := h
    have := askT_many (by rw [p.st]; exact List.filter_sublist.nodup nd) a
    rw [p.mn nd] at this
    exact this
  | rest z => obtain ⟨p, _⟩ := h; rw [p.mn nd]; omega
  | drop n => obtain ⟨p, _⟩ := h; rw [(dropT_stand p).2.2 nd]; omega
theorem StandIn.grow {S : BS} {t : ShS} {n : Str} {w d : Int} (h : ∀ m ∈ t.stand, m = n ∨ ∃ e, findE S.ents m = some e) : StandIn { S with ents := growE S.ents n w d } t := by
  intro m hm
  show ∃ e, findE (growE S.ents n w d) m = some e
  rw [findE_grow]
  by_cases e : m = n
  · rw [if_pos e]; exact ⟨_, rfl⟩
  · rw [if_neg e]; exact (h m hm).resolve_left e
end Lk

namespace Lk
open PySem L2
section
variable {P : Program} {w : World} {K : PySem.W.Frag} {mg : Str → Option Value} {base : Heap} {C : Addr}
/-! ### has, goings -/
def spSHas (C : Addr) : Sp := fun vs H Q _ => ∃ (κ : Kd ShS) (S : BS) (t : ShS) (n : Str), (shelves C).is κ ∧ vs = [.ref κ.p, .str n] ∧ GoodName n ∧ BookAt κ S t H ∧ ∀ H', Same H H' → Q (.bl (decide (n ∈ t.stand))) H'
theorem scSHas : FnScope ["self", "name"] ["self", "name"] (defScope sSHas) := ⟨rfl, rfl, rfl, by decide +kernel, rfl, by decide +kernel, by decide +kernel⟩
theorem ok_sHas {f g : Addr} (F : FunB K "has" "Shelf.has" sSHas f ["self", "name"]) (T : STxt K C) (G : FnP P w K mg base 2 g ["name"] spCkName) (hg : mg "check_name" = some (.ref g)) : FnP P w K mg base 4 f ["self", "name"] (spSHas C) := by
  refine F.ok scSHas (fun vs H Q E h => ?_) (fun cdv A outer s H vs Q E hr h => ?_)
  · obtain ⟨κ, S, t, n, _, rfl, _⟩ := h
    rfl
  · obtain ⟨κ, S, t, n, hκ, rfl, gn, B0, k⟩ := h
    have O := (shelves C).ok κ hκ
    have hu := hu_of hr
    refine ⟨_, pss_cons (ps_expr (pe_callP G (hr.mono (by decide)) hg (pa_cons (pv 1) pa_nil))) (pss_one (ps_ret (pe_cmp (pc_din hu (pv 1) (pe_fld (pv 0) rfl))))), ?_⟩
    refine ⟨_, rfl, n, rfl, gn, fun H' S' => ?_⟩
    have B1 := B0.same O S'
    obtain ⟨p, dc, dl, ds, gl, hi⟩ := id hκ
    obtain ⟨rfl, n0, n1, n2, n3⟩ := id hi
    obtain ⟨dx, h1⟩ := id B1.ob
    refine ⟨_, rfl, _, rfl, p, C, dx, _, _, rfl, h1, T.cl, T.s2, f_standing, ds, _, rfl, DGet.k (k := Sum.inr n) B1.ex.st, ?_⟩
    have kk := k H' S'
    rw [valV_tabS]
    by_cases hn : n ∈ t.stand
    · rw [decide_eq_true hn] at kk
      rw [if_pos hn]
      exact kk
    · rw [decide_eq_false hn] at kk
      rw [if_neg hn]
      exact kk
def spSGoings (C : Addr) (K : PySem.W.Frag) : Sp := fun vs H Q _ => ∃ (κ : Kd ShS) (S : BS) (t : ShS), (shelves C).is κ ∧ vs = [.ref κ.p] ∧ BookAt κ S t H ∧ ∀ l (ts : List Addr), H l = none → ts.length = t.gone.length → (∀ (j : Nat) (a : Addr) (g : Going), ts[j]? = some a → t.gone[j]? = some g → H a = some (.tup g.v)) → Q (.ref l) (upd H l (.lst (ts.map V.ref)))
theorem scSGoings : FnScope ["self"] ["self"] (defScope sSGoings) := ⟨rfl, rfl, rfl, by decide +kernel, rfl, by decide +kernel, by decide +kernel⟩
theorem ok_sGoings {f : Addr} (F : FunB K "goings" "Shelf.goings" sSGoings f ["self"]) (B : Blt mg) (T : STxt K C) : FnP P w K mg base 1 f ["self"] (spSGoings C K) := by
  refine F.ok scSGoings (fun vs H Q E h => ?_) (fun cdv A outer s H vs Q E hr h => ?_)
  · obtain ⟨κ, S, t, _, rfl, _⟩ := h
    rfl
  · obtain ⟨κ, S, t, hκ, rfl, B1, k⟩ := h
    obtain ⟨p, dc, dl, ds, gl, hi⟩ := id hκ
    obtain ⟨rfl, n0, n1, n2, n3⟩ := id hi
    obtain ⟨dx, h1⟩ := id B1.ob
    obtain ⟨ts, g2, g3, g4⟩ := B1.ex.gn
    refine ⟨_, pss_one (ps_ret (pe_callTy call_list_of rfl B.list PyProof.Rows.boot_list (pa_cons (pe_fld (pv 0) rfl) pa_nil))), ?_⟩
    refine ⟨_, rfl, p, C, dx, _, _, rfl, h1, T.cl, T.s3, f_gone, ?_⟩
    exact ⟨gl, _, rfl, .inl (SqL.of g2), fun l hl => k l ts hl g3 g4⟩
end
end Lk

namespace Lk
open PySem L2
section
variable {P : Program} {w : World} {K : PySem.W.Frag} {mg : Str → Option Value} {base : Heap}
/-! ### _law_steps -/
def spSteps (K : PySem.W.Frag) : Sp := fun vs H Q _ => ∃ (q : Addr) (d : Dd), vs = [.ref q] ∧ H q = some (.tup (Dd.v d)) ∧ Q (.int d.steps) H
theorem scSteps : FnScope ["_law_deed_here"] ["_law_deed_here"] (defScope sSteps) := ⟨rfl, rfl, rfl, by decide +kernel, rfl, by decide +kernel, by decide +kernel⟩
theorem ok_steps {f : Addr} (F : FunB K "_law_steps" "_law_steps" sSteps f ["_law_deed_here"]) (B : Blt mg) : FnP P w K mg base 1 f ["_law_deed_here"] (spSteps K) := by
  refine F.ok scSteps (fun vs H Q E h => ?_) (fun cdv A outer s H vs Q E hr h => ?_)
  · obtain ⟨q, d, rfl, _⟩ := h
    rfl
  · obtain ⟨q, d, rfl, hq, k⟩ := h
    refine ⟨_, (pss_cons (ps_if (pt_cmpR op_eq (pe_ix ix_tup (pv 0) pe_int (fun _ _ => rfl)) pe_str (nomark _)) (pss_one (ps_ret (pe_ix ix_tup (pv 0) pe_int (fun _ _ => rfl)))) pss_nil)
      (pss_one (ps_ret (pe_callTy call_int1 rfl B.int PyProof.Rows.boot_int (pa_cons (pe_cmpR op_eq (pe_ix ix_tup (pv 0) pe_int (fun _ _ => rfl)) pe_str (nomark _)) pa_nil))))), ?_⟩
    cases d with
    | ask n w =>
      refine ⟨_, rfl, q, _, _, _, rfl, rfl, SqT.of hq, rfl, rfl, _, rfl, ?_⟩
      refine iteF ?_
      exact ⟨_, rfl, q, _, _, _, rfl, rfl, SqT.of hq, rfl, rfl, .inr ⟨_, rfl, k⟩⟩
    | rest z =>
      refine ⟨_, rfl, q, _, _, _, rfl, rfl, SqT.of hq, rfl, rfl, _, rfl, ?_⟩
      refine iteT ?_
      exact ⟨_, rfl, q, _, _, _, rfl, rfl, SqT.of hq, rfl, k⟩
    | drop n =>
      refine ⟨_, rfl, q, _, _, _, rfl, rfl, SqT.of hq, rfl, rfl, _, rfl, ?_⟩
      refine iteF ?_
      exact ⟨_, rfl, q, _, _, _, rfl, rfl, SqT.of hq, rfl, rfl, .inr ⟨_, rfl, k⟩⟩

end
end Lk

namespace Lk
open PySem L2
section
variable {P : Program} {w : World} {K : PySem.W.Frag} {mg : Str → Option Value} {base : Heap}
/-! ### _law_aged -/
theorem scLAged : FnScope ["_law_count", "_law_part_here", "_law_times"] ["_law_count", "_law_part_here", "_law_times"] (defScope sLAged) := ⟨rfl, rfl, rfl, by decide +kernel, rfl, by decide +kernel, by decide +kernel⟩
def spLAged : Sp := fun vs H Q _ => ∃ c p t : Int, vs = [.int c, .int p, .int t] ∧ 0 ≤ c ∧ 2 ≤ p ∧ p ≤ 10 ^ 30 ∧ 0 ≤ t ∧ Q (.int (agedI c p t)) H
theorem ok_laged {f : Addr} (F : FunB K "_law_aged" "_law_aged" sLAged f ["_law_count", "_law_part_here", "_law_times"]) : FnP P w K mg base 1 f ["_law_count", "_law_part_here", "_law_times"] spLAged := by
  refine F.ok scLAged (fun vs H Q E h => ?_) (fun cdv A outer s H vs Q E hr h => ?_)
  · obtain ⟨c, p, t, rfl, _⟩ := h
    rfl
  · obtain ⟨c, p, t, rfl, g1, g2, g3, g4, k⟩ := h
    refine ⟨_, (pss_cons (ps_while PassesOwn.never (PW.pt (pw_and (pt_cmpR op_gt (pv 2) pe_int (nomark _)) (pw_and1 (pt_cmpR op_gt (pv 0) pe_int (nomark _))))) (pss_cons (ps_set (i := 0) scLAged.nd rfl (Or.inl rfl) (pe_op op_fdivB.letter (pv 0) (pv 1)))
      (pss_one (ps_set (i := 2) scLAged.nd rfl (Or.inl rfl) (pe_op op_sub.letter0 (pv 2) pe_int)))))
      (pss_one (ps_ret (pv 0)))), ?_⟩
    refine while_by (fun σ H' => ∃ c' t' : Int, σ = [some (.int c'), some (.int p), some (.int t')] ∧ 0 ≤ c' ∧ 0 ≤ t' ∧ agedI c' p t' = agedI c p t ∧ H' = H) (fun σ _ => match σ with | some (.int c') :: _ => c'.toNat | _ => 0) ⟨c, t, rfl, g1, g4, rfl, rfl⟩ ?_ ?_
    · rintro σ H' ⟨c', t', rfl, h1, h2, h3, rfl⟩
      refine ⟨_, rfl, _, _, rfl, rfl, _, rfl, ?_⟩
      refine ite2 (fun ht => ?_) (fun ht => iteF ?_)
      · have ht : 0 < t' := of_decide_eq_true ht
        refine ⟨_, rfl, _, _, rfl, rfl, _, rfl, ?_⟩
        refine ite2 (fun hc => ?_) (fun hc => ?_)
        · have hc : 0 < c' := of_decide_eq_true hc
          refine ⟨_, rfl, _, rfl, _, _, rfl, rfl, div_ok (by omega) g3, fun z hz => ?_⟩
          refine ⟨_, rfl, _, _, rfl, rfl, fun y hy => ?_⟩
          have z0 : 0 ≤ z := by rw [hz]; exact Int.ediv_nonneg h1 (by omega)
          have zl : z < c' := by rw [hz]; exact Int.ediv_lt_self_of_pos_of_ne_one hc (by omega)
          refine ⟨⟨z, y, rfl, z0, by omega, ?_, rfl⟩, by show z.toNat < c'.toNat; omega⟩
          rw [← h3, agedI_next h1 (by omega) ht, hz, hy]
        · have hc : c' = 0 := by
            have : ¬ 0 < c' := fun z => hc (decide_eq_true z)
            omega
          refine ⟨_, rfl, ?_⟩
          subst hc
          rw [agedI_c0] at h3
          rw [← h3] at k
          exact k
      · have ht : t' = 0 := by
          have : ¬ 0 < t' := fun z => ht (decide_eq_true z)
          omega
        refine ⟨_, rfl, ?_⟩
        subst ht
        rw [agedI_zero h1] at h3
        rw [← h3] at k
        exact k
    · intro σ H' Q1 Q2 hq h
      obtain ⟨v1, e1, i1, j1, e2, e3, k1, e4, h⟩ := h
      refine ⟨v1, e1, i1, j1, e2, e3, k1, e4, ?_⟩
      cases k1 with
      | false => exact hq _ _ h
      | true =>
        obtain ⟨v2, f1, i2, j2, f2, f3, k2, f4, h⟩ := h
        exact ⟨v2, f1, i2, j2, f2, f3, k2, f4, hq _ _ h⟩
end
end Lk

namespace Lk
open PySem L2
abbrev sPlaces : Stmt := top 28
abbrev sRested : Stmt := top 33
abbrev sKinds : Stmt := top 34
abbrev sIsGoing : Stmt := top 35
abbrev sLeftFaded : Stmt := top 36
abbrev sLeftRest : Stmt := top 37
abbrev sListed : Stmt := top 38
abbrev sWalked : Stmt := top 39
abbrev sLKnown : Stmt := top 40
abbrev sSeen : Stmt := top 41
abbrev sLaw : Stmt := top 42
theorem kit_tt (K : PySem.W.Frag) : PySem.W.kitOne K (.type "tuple") (.type "tuple") = some true := by
  first | rfl | decide +kernel
theorem strs_flat (xs : List Str) : (xs.map V.str).all flatV = true := by
  rw [List.all_eq_true]
  intro x hx
  obtain ⟨n, _, rfl⟩ := List.mem_map.mp hx
  rfl
theorem inV_strs {n : Str} : ∀ {xs : List Str}, inV (.str n) (xs.map V.str) = decide (n ∈ xs)
  | [] => by unfold inV; simp
  | x :: r => by
    have ih := inV_strs (n := n) (xs := r)
    unfold inV at ih ⊢
    rw [List.map_cons, List.any_cons, ih]
    show (eqV (.str x) (.str n) || _) = _
    rw [show eqV (.str x) (.str n) = decide (x = n) from by first | rfl | simp [eqV] | (unfold eqV; rfl)]
    by_cases e : x = n
    · rw [decide_eq_true e, Bool.true_or, decide_eq_true (by rw [e]; exact List.mem_cons_self)]
    · rw [decide_eq_false e, Bool.false_or]
      by_cases h : n ∈ r
      · rw [decide_eq_true h, decide_eq_true (List.mem_cons_of_mem _ h)]
      · rw [decide_eq_false h, decide_eq_false (fun z => by rcases List.mem_cons.mp z with z | z; exact e z.symm; exact h z)]
section
variable {P : Program} {w : World} {K : PySem.W.Frag} {mg : Str → Option Value} {base : Heap}
theorem ix_tupC {X : Cx} {K : PySem.W.Frag} (h : X.K = K) : IxR X (rIxT K) := h ▸ ix_tup
/-! ### _law_places -/
theorem scPlaces : FnScope ["_law_cell"] ["_law_cell"] (defScope sPlaces) := ⟨rfl, rfl, rfl, by decide +kernel, rfl, by decide +kernel, by decide +kernel⟩
theorem ok_places {f : Addr} (F : FunB K "_law_places" "_law_places" sPlaces f ["_law_cell"]) : FnP P w K mg base 1 f ["_law_cell"] (spBetween 1 40) := by
  refine F.ok scPlaces (fun vs H Q E h => ?_) (fun cdv A outer s H vs Q E hr h => ?_)
  · obtain ⟨i, rfl, _⟩ := h
    rfl
  · obtain ⟨i, rfl, q⟩ := h
    refine ⟨_, pss_cons (ps_if (pt_cmpR op_eq (pe_op op_mod (pv 0) pe_int) pe_int (nomark _)) (pss_one (ps_ret (pe_op op_add pe_int (pe_op op_mod (pe_op op_fdiv (pv 0) pe_int) pe_int)))) pss_nil)
      (pss_one (ps_ret (pe_op op_add pe_int (pe_op op_mod (pe_op op_fdiv (pv 0) pe_int) pe_int)))), ?_⟩
    refine ⟨_, rfl, _, _, rfl, rfl, (by show (0 : Int) < 4; decide), rfl, _, rfl, ?_⟩
    refine ite2 (fun _ => ?_) (fun _ => ?_)
    · exact ⟨_, rfl, _, _, rfl, rfl, ⟨by decide, by decide⟩, _, _, rfl, rfl, (by show (0 : Int) < 40; decide), _, _, rfl, rfl, q _ (by omega) (by omega)⟩
    · exact ⟨_, rfl, _, _, rfl, rfl, ⟨by decide, by decide⟩, _, _, rfl, rfl, (by show (0 : Int) < 6; decide), _, _, rfl, rfl, q _ (by omega) (by omega)⟩
/-! ### _law_rested -/
def spRested : Sp := fun vs H Q _ => ∃ (q : Addr) (d : Dd) (x : V) (tm : Int), vs = [.ref q, x, .int tm] ∧ H q = some (.tup (Dd.v d)) ∧ (∀ z, d = .rest z → x = .int tm) ∧ Q (.bl true) H
theorem scRested : FnScope ["_law_deed_here", "_law_found", "_law_times"] ["_law_deed_here", "_law_found", "_law_times"] (defScope sRested) := ⟨rfl, rfl, rfl, by decide +kernel, rfl, by decide +kernel, by decide +kernel⟩
theorem ok_rested {f gw : Addr} (F : FunB K "_law_rested" "_law_rested" sRested f ["_law_deed_here", "_law_found", "_law_times"]) (Gw : FnP P w K mg base 1 gw ["_law_found"] spLWhole) (hgw : mg "_law_whole" = some (.ref gw)) : FnP P w K mg base 3 f ["_law_deed_here", "_law_found", "_law_times"] spRested := by
  refine F.ok scRested (fun vs H Q E h => ?_) (fun cdv A outer s H vs Q E hr h => ?_)
  · obtain ⟨q, d, x, tm, rfl, _⟩ := h
    rfl
  · obtain ⟨q, d, x, tm, rfl, hq, hx, kk⟩ := h
    refine ⟨_, pss_one (ps_ret (pe_or (pe_cmpR op_ne (pe_ix ix_tup (pv 0) pe_int (fun _ _ => rfl)) pe_str (nomark _)) (pe_one (pe_and (pe_callP Gw (hr.mono (by decide)) hgw (pa_cons (pv 1) pa_nil)) (pe_one (pe_cmpR op_eq (pv 1) (pv 2) (nomark _))))))), ?_⟩
    cases d with
    | ask n w' => exact ⟨_, rfl, q, _, _, _, rfl, rfl, SqT.of hq, rfl, rfl, _, rfl, iteT kk⟩
    | drop n => exact ⟨_, rfl, q, _, _, _, rfl, rfl, SqT.of hq, rfl, rfl, _, rfl, iteT kk⟩
    | rest z =>
      have hx := hx z rfl
      subst hx
      refine ⟨_, rfl, q, _, _, _, rfl, rfl, SqT.of hq, rfl, rfl, _, rfl, ?_⟩
      refine iteF ?_
      refine ⟨_, rfl, tm, rfl, true, rfl, ?_⟩
      refine iteT ?_
      refine ⟨_, rfl, _, rfl, rfl, ?_⟩
      rw [decide_eq_true rfl]
      exact kk
/-! ### _law_kinds -/
def spKinds : Sp := fun vs H Q _ => ∃ (r : Addr) (g : Going), vs = [.ref r] ∧ H r = some (.tup g.v) ∧ Q (.bl true) H
theorem scKinds : FnScope ["_law_row"] ["_law_row"] (defScope sKinds) := ⟨rfl, rfl, rfl, by decide +kernel, rfl, by decide +kernel, by decide +kernel⟩
theorem ok_kinds {f gw : Addr} (F : FunB K "_law_kinds" "_law_kinds" sKinds f ["_law_row"]) (B : Blt mg) (bt : mg "tuple" = none) (Gw : FnP P w K mg base 1 gw ["_law_found"] spLWhole) (hgw : mg "_law_whole" = some (.ref gw)) : FnP P w K mg base 3 f ["_law_row"] spKinds := by
  refine F.ok scKinds (fun vs H Q E h => ?_) (fun cdv A outer s H vs Q E hr h => ?_)
  · obtain ⟨r, g, rfl, _⟩ := h
    rfl
  · obtain ⟨r, g, rfl, hg, kk⟩ := h
    refine ⟨_, pss_cons (ps_if (PW.pt (pw_or (pt_not (pt_val (pe_isi B.isi bt (pv 0) PyProof.Rows.boot_tuple))) (pw_or (pt_cmpR op_ne (pe_callB call_len_seq rfl B.len PySem.boot_len (pa_cons (pv 0) pa_nil)) pe_int (nomark _))
        (pw_or (pt_not (pt_val (pe_isi B.isi B.str (pe_ix ix_tup (pv 0) pe_int (fun _ _ => rfl)) PyProof.Rows.boot_str))) (pw_or1 (pt_not (pt_val (pe_isi B.isi B.str (pe_ix ix_tup (pv 0) pe_int (fun _ _ => rfl)) PyProof.Rows.boot_str)))))))) (pss_one (ps_ret pe_bl)) pss_nil)
      (pss_one (ps_ret (pe_and (pe_callP Gw (hr.mono (by decide)) hgw (pa_cons (pe_ix ix_tup (pv 0) pe_int (fun _ _ => rfl)) pa_nil)) (pe_and (pe_callP Gw (hr.mono (by decide)) hgw (pa_cons (pe_ix ix_tup (pv 0) pe_int (fun _ _ => rfl)) pa_nil)) (pe_one (pe_callP Gw (hr.mono (by decide)) hgw (pa_cons (pe_ix ix_tup (pv 0) pe_int (fun _ _ => rfl)) pa_nil))))))), ?_⟩
    refine ⟨_, rfl, _, "tuple", _, _, rfl, .tup hg, kit_tt K, _, rfl, ?_⟩
    refine iteF ?_
    refine ⟨_, rfl, r, _, rfl, .inr (SqT.of hg), rfl, _, rfl, ?_⟩
    refine iteF ?_
    refine ⟨_, rfl, r, _, _, _, rfl, rfl, SqT.of hg, rfl, _, "str", _, _, rfl, .str _, kit_ss K, _, rfl, ?_⟩
    refine iteF ?_
    refine ⟨_, rfl, r, _, _, _, rfl, rfl, SqT.of hg, rfl, _, "str", _, _, rfl, .str _, kit_ss K, _, rfl, ?_⟩
    refine iteF ?_
    refine ⟨_, rfl, r, _, _, _, rfl, rfl, SqT.of hg, rfl, _, rfl, true, rfl, ?_⟩
    refine iteT ?_
    refine ⟨_, rfl, r, _, _, _, rfl, rfl, SqT.of hg, rfl, _, rfl, true, rfl, ?_⟩
    refine iteT ?_
    exact ⟨_, rfl, r, _, _, _, rfl, rfl, SqT.of hg, rfl, _, rfl, kk⟩
/-! ### _law_is_going -/
def spIsGoing (K : PySem.W.Frag) : Sp := fun vs H Q _ => ∃ (r dc dl st : Addr) (g : Going) (xs : List Str), vs = [.ref r, .int g.deed, .str g.why, .ref dc, .ref dl, .ref st] ∧ H r = some (.tup g.v) ∧ SqL K H st (xs.map V.str) ∧ g.name ∈ xs ∧ DGet H dc (.str g.name) (some (.int g.count)) ∧ DGet H dl (.str g.name) (some (.int g.last)) ∧ ∀ H', Same H H' → Q (.bl true) H'
theorem scIsGoing : FnScope ["_law_row", "_law_number", "_law_reason", "_law_counts", "_law_lasts", "_law_standing"] ["_law_row", "_law_number", "_law_reason", "_law_counts", "_law_lasts", "_law_standing"] (defScope sIsGoing) := ⟨rfl, rfl, rfl, by decide +kernel, rfl, by decide +kernel, by decide +kernel⟩
theorem ok_isGoing {f gk : Addr} (F : FunB K "_law_is_going" "_law_is_going" sIsGoing f ["_law_row", "_law_number", "_law_reason", "_law_counts", "_law_lasts", "_law_standing"]) (Gk : FnP P w K mg base 3 gk ["_law_row"] spKinds) (hgk : mg "_law_kinds" = some (.ref gk)) : FnP P w K mg base 5 f ["_law_row", "_law_number", "_law_reason", "_law_counts", "_law_lasts", "_law_standing"] (spIsGoing K) := by
  refine F.ok scIsGoing (fun vs H Q E h => ?_) (fun cdv A outer s H vs Q E hr h => ?_)
  · obtain ⟨r, dc, dl, st, g, xs, rfl, _⟩ := h
    rfl
  · obtain ⟨r, dc, dl, st, g, xs, rfl, hg, hst, hn, hc, hl, kk⟩ := h
    have hu := hu_of hr
    have hu' : _ < cLine := Nat.lt_of_succ_lt (hu_of hr)
    refine ⟨_, pss_cons (ps_if (PW.pt (pw_or (pt_not (pt_val (pe_callP Gk (hr.mono (by decide)) hgk (pa_cons (pv 0) pa_nil)))) (pw_or1 (pt_cmpR op_notIn_seq (pe_ix ix_tup (pv 0) pe_int (fun _ _ => rfl)) (pv 5) rfl)))) (pss_one (ps_ret pe_bl)) pss_nil)
      (pss_one (ps_ret (pe_cmpR (op_eqTT hu') (pv 0) (pe_tup (pa_cons (pv 1) (pa_cons (pe_ix ix_tup (pv 0) pe_int (fun _ _ => rfl)) (pa_cons (pv 2) (pa_cons (pe_dget hu (pv 3) (pe_ix ix_tup (pv 0) pe_int (fun _ _ => rfl)) (fun _ _ => rfl)) (pa_cons (pe_dget hu (pv 4) (pe_ix ix_tup (pv 0) pe_int (fun _ _ => rfl)) (fun _ _ => rfl)) pa_nil)))))) (nomark _)))), ?_⟩
    refine ⟨_, rfl, r, g, rfl, hg, true, rfl, ?_⟩
    refine iteF ?_
    refine ⟨_, rfl, r, _, _, _, rfl, rfl, SqT.of hg, rfl, _, rfl, st, _, rfl, .inl hst, rfl, strs_flat xs, _, rfl, ?_⟩
    rw [if_pos rfl, inV_strs, decide_eq_true hn]
    refine iteF ?_
    refine ⟨_, rfl, _, rfl, _, rfl, r, _, _, _, rfl, rfl, SqT.of hg, rfl, _, rfl, _, rfl, _, rfl, r, _, _, _, rfl, rfl, SqT.of hg, rfl, dc, _, rfl, hc, _, rfl, _, rfl, r, _, _, _, rfl, rfl, SqT.of hg, rfl, dl, _, rfl, hl, (by show 5 ≤ sizeLine; decide), fun q hq => ?_⟩
    exact ⟨r, q, g.v, rfl, rfl, SqT.of (Same.upd hq _ _ hg), SqT.of upd_same, rfl, kk _ (Same.upd hq)⟩
/-! ### _law_left_by_faded -/
structure DictF (H : Hp) (d : Addr) (xs : List Str) (f : Str → Int) : Prop where
  is : ∃ kvs : List (Key × V), H d = some (.dK kvs) ∧ kvs.length ≤ 30 ∧ ∀ n ∈ xs, valV kvs (Sum.inr n : Key) = some (.int (f n))
theorem DictF.get {H : Hp} {d : Addr} {xs : List Str} {f : Str → Int} (h : DictF H d xs f) {n : Str} (hn : n ∈ xs) : DGet H d (.str n) (some (.int (f n))) := by
  obtain ⟨kvs, h1, _, h2⟩ := h.is
  have := DGet.k (k := (Sum.inr n : Key)) h1
  rw [h2 n hn] at this
  exact this
theorem DictF.same {H H' : Hp} {d : Addr} {xs : List Str} {f : Str → Int} (h : DictF H d xs f) (s : Same H H') : DictF H' d xs f := by
  obtain ⟨kvs, h1, h2⟩ := h.is
  exact ⟨kvs, s _ _ h1, h2⟩
theorem DictF.sub {H : Hp} {d : Addr} {xs ys : List Str} {f : Str → Int} (h : DictF H d xs f) (s : ∀ n ∈ ys, n ∈ xs) : DictF H d ys f := by
  obtain ⟨kvs, h1, h2, h3⟩ := h.is
  exact ⟨kvs, h1, h2, fun n hn => h3 n (s n hn)⟩
def spLeftFaded : Sp := fun vs H Q _ => ∃ (num : Int) (tl dc dl st : Addr) (zs : List (Addr × (Int × Str))) (xs : List Str) (f l : Str → Int), vs = [.int num, .ref tl, .ref dc, .ref dl, .ref st] ∧ H tl = some (.lst (zs.map fun z => V.ref z.1)) ∧ (∀ z ∈ zs, H z.1 = some (.tup (fadeG num z.2).v)) ∧
  H st = some (.lst (xs.map V.str)) ∧ xs.Nodup ∧ xs.length ≤ 64 ∧ DictF H dc xs f ∧ DictF H dl xs l ∧ (zs.map fun z => z.2.2).Nodup ∧ (∀ z ∈ zs, z.2.2 ∈ xs ∧ f z.2.2 = 0 ∧ l z.2.2 = z.2.1 ∧ 0 < z.2.1) ∧ zs.Pairwise (fun a b => a.2.1 < b.2.1) ∧ zs.length ≤ 64 ∧ (∀ n ∈ xs, n ∉ (zs.map fun z => z.2.2) → f n ≠ 0) ∧
  ∀ p H', H p = none → Same H H' → H' p = some (.lst ((xs.filter fun n => decide (n ∉ zs.map fun z => z.2.2)).map V.str)) → Q (.ref p) H'
theorem scLeftFaded : FnScope ["_law_number", "_law_told", "_law_counts", "_law_lasts", "_law_standing", "_law_left", "_law_last", "_law_row"] ["_law_number", "_law_told", "_law_counts", "_law_lasts", "_law_standing"] (defScope sLeftFaded) := ⟨rfl, rfl, rfl, by decide +kernel, rfl, by decide +kernel, by decide +kernel⟩
theorem dgetC {X : Cx} {o i : Expr} {pos : Pos} {td ty : TE} (hu : X.A.units + 1 < cLine) (ho : PE X o td) (hi : PE X i ty) (hs : NoSl i) : PE X (.Subscript o i pos) (tDGet td ty) := pe_dget hu ho hi hs
theorem filter_take {xs : List Str} {zs : List (Addr × (Int × Str))} {i : Nat} (hi : i < zs.length) : ((xs.filter fun n => decide (n ∉ (zs.take i).map fun z => z.2.2)).filter fun m => decide (m ≠ zs[i].2.2)) = xs.filter fun n => decide (n ∉ (zs.take (i + 1)).map fun z => z.2.2) := by
  rw [List.filter_filter]
  refine List.filter_congr fun n _ => ?_
  rw [List.take_succ_eq_append_getElem hi, List.map_append, Bool.eq_iff_iff, Bool.and_eq_true, decide_eq_true_eq, decide_eq_true_eq, decide_eq_true_eq, List.mem_append]
  constructor
  · rintro ⟨a, b⟩ (z | z)
    · exact b z
    · exact a (by simpa using z)
  · intro z
    exact ⟨fun e => z (.inr (by simp [e])), fun e => z (.inl e)⟩
set_option maxHeartbeats 4000000 in
theorem ok_leftFaded {f gi : Addr} (F : FunB K "_law_left_by_faded" "_law_left_by_faded" sLeftFaded f ["_law_number", "_law_told", "_law_counts", "_law_lasts", "_law_standing"]) (B : Blt mg) (bany : mg "any" = none) (Gi : FnP P w K mg base 5 gi ["_law_row", "_law_number", "_law_reason", "_law_counts", "_law_lasts", "_law_standing"] (spIsGoing K)) (hgi : mg "_law_is_going" = some (.ref gi)) :
    FnP P w K mg base 7 f ["_law_number", "_law_told", "_law_counts", "_law_lasts", "_law_standing"] spLeftFaded := by
  refine F.ok scLeftFaded (fun vs H Q E h => ?_) (fun cdv A outer s H vs Q E hr h => ?_)
  · obtain ⟨num, tl, dc, dl, st, zs, xs, f, l, rfl, _⟩ := h
    rfl
  · obtain ⟨num, tl, dc, dl, st, zs, xs, f, l, rfl, htl, hz, hst, nd, few, hdc, hdl, ndz, hzz, hpw, hzl, hleft, kk⟩ := h
    have hu := hu_of hr
    refine ⟨_, pss_cons (ps_set (i := 5) scLeftFaded.nd rfl (Or.inl rfl) (pe_callTy call_list_of rfl B.list PyProof.Rows.boot_list (pa_cons (pv 4) pa_nil)))
      (pss_cons (ps_set (i := 6) scLeftFaded.nd rfl (Or.inl rfl) pe_int)
      (pss_cons (ps_for PassesOwn.never rfl (pi_list (pv 1)) (pg_name (i := 7) scLeftFaded.nd rfl (Or.inl rfl))
        (pss_cons (ps_if (pt_not (pt_val (pe_callP Gi (hr.mono (by decide)) hgi (pa_cons (pv 7) (pa_cons (pv 0) (pa_cons pe_str (pa_cons (pv 2) (pa_cons (pv 3) (pa_cons (pv 5) pa_nil))))))))) (pss_one (ps_ret pe_non)) pss_nil)
        (pss_cons (ps_if (PW.pt (pw_or (pt_cmpR op_ne (pe_dget hu (pv 2) (pe_ix ix_tup (pv 7) pe_int (fun _ _ => rfl)) (fun _ _ => rfl)) pe_int (nomark _)) (pw_or1 (pt_cmpR op_le (pe_dget hu (pv 3) (pe_ix ix_tup (pv 7) pe_int (fun _ _ => rfl)) (fun _ _ => rfl)) (pv 6) (nomark _))))) (pss_one (ps_ret pe_non)) pss_nil)
        (pss_cons (ps_set (i := 6) scLeftFaded.nd rfl (Or.inl rfl) (pe_dget hu (pv 3) (pe_ix ix_tup (pv 7) pe_int (fun _ _ => rfl)) (fun _ _ => rfl)))
        (pss_one (ps_expr (pe_bm PySem.F.plainAttrs_list PySem.F.slot_list_remove PySem.F.type_list_remove mt_remove (pv 5) (pa_cons (pe_ix ix_tup (pv 7) pe_int (fun _ _ => rfl)) pa_nil))))))))
      (pss_cons (ps_if (pt_val (pe_callB (call_any rfl) rfl bany PyProof.Rows.boot_any (pa_cons
          (pe_lc (N' := ["_law_name", "_law_counts"]) (cap := [none, some 2]) rfl rfl (pi_list (pv 5)) (fun _ _ _ _ _ => pg_name (i := 0) (by decide +kernel : (["_law_name", "_law_counts"] : List Str).Nodup) rfl (Or.inl rfl)) (fun _ _ _ _ _ => pts_nil)
            (fun _ _ _ _ _ => pe_cmpR op_eq (dgetC hu (pv 1) (pv 0) (fun _ _ => rfl)) pe_int (nomark _))) pa_nil))) (pss_one (ps_ret pe_non)) pss_nil)
      (pss_one (ps_ret (pv 5)))))), ?_⟩
    refine ⟨_, rfl, st, _, rfl, .inl (SqL.of hst), fun p hp => ?_⟩
    have S1 : Same H (upd H p (.lst (xs.map V.str))) := Same.upd hp
    have hp1 : (upd H p (.lst (xs.map V.str))) p = some (.lst (xs.map V.str)) := upd_same
    generalize upd H p (.lst (xs.map V.str)) = H1 at S1 hp1 ⊢
    refine ⟨_, rfl, tl, rfl, ⟨_, SqL.of (S1 _ _ htl)⟩, ?_⟩
    have nodz : ∀ i (hi : i < zs.length), zs[i].2.2 ∈ xs.filter fun n => decide (n ∉ (zs.take i).map fun z => z.2.2) := fun i hi => by
      refine List.mem_filter.mpr ⟨(hzz _ (List.getElem_mem hi)).1, decide_eq_true fun z => ?_⟩
      obtain ⟨y, hy, e⟩ := List.mem_map.mp z
      obtain ⟨j, hj, rfl⟩ := List.getElem_of_mem hy
      rw [List.length_take] at hj
      rw [List.getElem_take] at e
      have := List.pairwise_iff_getElem.mp (List.pairwise_map.mp ndz) j i (by omega) hi (by omega)
      exact this e
    refine for_list (K := K) (a := tl) (xs := zs.map fun z => V.ref z.1) (fun i σ H' => ∃ (la : Int) (z7 : Option V), σ = [some (.int num), some (.ref tl), some (.ref dc), some (.ref dl), some (.ref st), some (.ref p), some (.int la), z7] ∧ (∀ (hi : i < zs.length), la < zs[i].2.1) ∧ Same H H' ∧ H' p = some (.lst ((xs.filter fun n => decide (n ∉ (zs.take i).map fun z => z.2.2)).map V.str))) ?_ ?_ ?_ ?_
    · refine ⟨0, none, rfl, fun hi => (hzz _ (List.getElem_mem hi)).2.2.2, S1, ?_⟩
      rw [hp1, List.filter_eq_self.mpr]
      intro a _
      exact decide_eq_true (by simp)
    · rintro i σ H' _ ⟨la, z7, rfl, _, SS, _⟩
      exact SqL.of (SS _ _ htl)
    · rintro i x σ H2 hx ⟨la, z7, rfl, hla, SS, hpl⟩
      have hi : i < zs.length := by
        have := (List.getElem?_eq_some_iff.mp hx).1
        rw [List.length_map] at this
        exact this
      have ex : x = .ref zs[i].1 := by
        rw [List.getElem?_map, List.getElem?_eq_getElem hi] at hx
        exact (Option.some.inj hx).symm
      subst ex
      have hm : zs[i] ∈ zs := List.getElem_mem hi
      have hr0 := SS _ _ (hz _ hm)
      obtain ⟨zx, zf, zl, z0⟩ := hzz _ hm
      have hla := hla hi
      have hdc2 := (hdc.same SS).get zx
      have hdl2 := (hdl.same SS).get zx
      rw [zf] at hdc2
      rw [zl] at hdl2
      refine ⟨_, rfl, _, rfl, _, rfl, _, rfl, _, rfl, zs[i].1, dc, dl, p, fadeG num zs[i].2, _, rfl, hr0, SqL.of hpl, nodz i hi, hdc2, hdl2, fun H3 S3 => ⟨true, rfl, ?_⟩⟩
      refine iteF ?_
      have SS3 := SS.trans S3
      have hr3 := S3 _ _ hr0
      have hdc3 := (hdc.same SS3).get zx
      have hdl3 := (hdl.same SS3).get zx
      rw [zf] at hdc3
      rw [zl] at hdl3
      refine ⟨_, rfl, _, rfl, zs[i].1, _, _, _, rfl, rfl, SqT.of hr3, rfl, dc, _, rfl, hdc3, rfl, _, rfl, ?_⟩
      refine iteF ?_
      refine ⟨_, rfl, _, rfl, zs[i].1, _, _, _, rfl, rfl, SqT.of hr3, rfl, dl, _, rfl, hdl3, _, rfl, _, _, rfl, rfl, _, rfl, ?_⟩
      rw [decide_eq_false (show ¬ zs[i].2.1 ≤ la by omega)]
      refine iteF ?_
      refine ⟨_, rfl, _, rfl, zs[i].1, _, _, _, rfl, rfl, SqT.of hr3, rfl, dl, _, rfl, hdl3, ?_⟩
      refine ⟨_, rfl, .inl ⟨rfl, _, SqL.of (S3 _ _ hpl)⟩, _, rfl, zs[i].1, _, _, _, rfl, rfl, SqT.of hr3, rfl, p, _, _, rfl, rfl, S3 _ _ hpl, List.filter_sublist.nodup nd, nodz i hi, ?_⟩
      refine ⟨zs[i].2.1, _, rfl, fun hi2 => List.pairwise_iff_getElem.mp hpw i (i + 1) hi hi2 (by omega), fun b o e => ?_, ?_⟩
      · rw [upd_ne (ne_of_none e hp)]; exact SS3 b o e
      · rw [upd_same]
        show some (HO.lst (List.map V.str (List.filter (fun m => decide (m ≠ zs[i].2.2)) _))) = _
        rw [filter_take hi]
    · rintro σ H2 ⟨la, z7, rfl, _, SS, hpl⟩
      rw [List.length_map, List.take_length] at hpl
      have key : ∀ n ∈ (xs.filter fun n => decide (n ∉ zs.map fun z => z.2.2)), n ∈ xs ∧ f n ≠ 0 := fun n hn => by
        obtain ⟨a, b⟩ := List.mem_filter.mp hn
        exact ⟨a, hleft n a (of_decide_eq_true b)⟩
      have lenl : (xs.filter fun n => decide (n ∉ zs.map fun z => z.2.2)).length ≤ sizeLine := Nat.le_trans (List.length_filter_le _ _) (Nat.le_trans few (by decide))
      have fin := fun H' S' hp' => kk p H' hp S' hp'
      generalize (xs.filter fun n => decide (n ∉ zs.map fun z => z.2.2)) = ls at hpl key lenl fin
      refine ⟨_, rfl, p, rfl, ⟨_, SqL.of hpl⟩, ?_⟩
      refine lc_go ls.length (fun i ys σ' H' => ys = List.replicate i (V.bl false) ∧ H' = H2 ∧ ∃ v, σ' = [v, some (.ref dc)]) ⟨rfl, rfl, none, rfl⟩ lenl ?_ ?_ ?_ ?_
      · rintro i ys σ' H' hi ⟨_, rfl, _⟩
        exact ⟨_, .str ls[i], SqL.of hpl, by simp [hi]⟩
      · rintro ys σ' H' ⟨_, rfl, _⟩
        exact ⟨_, SqL.of hpl, by rw [List.length_map]; exact Nat.le_refl _⟩
      · rintro i ys σ' H' v H3 hi hl' ⟨rfl, rfl, w', rfl⟩ ⟨rfl, hy⟩
        have hv : v = .str ls[i] := by
          have := hy _ (SqL.of hpl)
          rw [List.getElem?_map, List.getElem?_eq_getElem hi] at this
          exact (Option.some.inj this).symm
        subst hv
        obtain ⟨kx, kf⟩ := key _ (List.getElem_mem hi)
        refine ⟨_, rfl, _, rfl, dc, _, rfl, (hdc.same SS).get kx, rfl, ?_⟩
        rw [decide_eq_false (show ¬ V.int (f ls[i]) = V.int 0 from fun z => kf (V.int.inj z))]
        refine lcYes hi hl' lenl ⟨?_, rfl, _, rfl⟩
        rw [List.replicate_succ']
      · rintro ys σ' H' ⟨rfl, rfl, w', rfl⟩ q hq
        refine ⟨q, List.replicate ls.length false, rfl, SqL.of ?_, _, rfl, ?_⟩
        · rw [upd_same, List.map_replicate]
        rw [show (List.replicate ls.length false).any id = false by simp]
        refine iteF ?_
        have S3 : Same H' (upd H' q (.lst (List.replicate ls.length (V.bl false)))) := Same.upd hq
        exact ⟨_, rfl, fin _ (SS.trans S3) (S3 _ _ hpl)⟩
end
end Lk

namespace Lk
open PySem L2
theorem op_ltTC {X : Cx} {K : PySem.W.Frag} (h : X.K = K) (hu : X.A.units < cLine) : OpR X (compareOp .Lt) (rLtT K) := h ▸ op_ltT hu
def reasonOf (places : Int) (xs : List Str) : Dd → Str
  | .drop n => if n ∈ xs then "dropped" else ""
  | .ask n _ => if n ∉ xs ∧ (xs.length : Int) = places then "crowded" else ""
  | .rest _ => ""
def RestOf (num places : Int) (f l : Str → Int) (d : Dd) (xs : List Str) (gs : List Going) (ys : List Str) : Prop :=
  (reasonOf places xs d = "" ∧ gs = [] ∧ ys = xs) ∨ ∃ m, m ∈ xs ∧ reasonOf places xs d ≠ "" ∧ gs = [⟨num, m, reasonOf places xs d, f m, l m⟩] ∧ (ys = xs.filter fun n => decide (n ≠ m)) ∧ (∀ n, d = .drop n → m = n) ∧ (∀ n w, d = .ask n w → ∀ x ∈ xs, x ≠ m → HT.lexLt [f x, l x] [f m, l m] = false)
section
variable {P : Program} {w : World} {K : PySem.W.Frag} {mg : Str → Option Value} {base : Heap}
/-! ### _law_left_by_rest -/
def spLeftRest : Sp := fun vs H Q _ => ∃ (num places : Int) (q tl dc dl st : Addr) (d : Dd) (zs : List (Addr × Going)) (xs ys : List Str) (f l : Str → Int), vs = [.int num, .ref q, .ref tl, .ref dc, .ref dl, .ref st, .int places] ∧ H q = some (.tup (Dd.v d)) ∧ H tl = some (.lst (zs.map fun z => V.ref z.1)) ∧ (∀ z ∈ zs, H z.1 = some (.tup z.2.v)) ∧
  H st = some (.lst (xs.map V.str)) ∧ xs.length ≤ 64 ∧ DictF H dc xs f ∧ DictF H dl xs l ∧ RestOf num places f l d xs (zs.map (·.2)) ys ∧
  ∀ p H', H p = none → Same H H' → H' p = some (.lst (ys.map V.str)) → Q (.ref p) H'
theorem scLeftRest : FnScope ["_law_number", "_law_deed_here", "_law_told", "_law_counts", "_law_lasts", "_law_standing", "_law_places_here", "_law_reason", "_law_went", "_law_left", "_law_rank"] ["_law_number", "_law_deed_here", "_law_told", "_law_counts", "_law_lasts", "_law_standing", "_law_places_here"] (defScope sLeftRest) := ⟨rfl, rfl, rfl, by decide +kernel, rfl, by decide +kernel, by decide +kernel⟩
set_option maxHeartbeats 4000000 in
theorem ok_leftRest {f gi : Addr} (F : FunB K "_law_left_by_rest" "_law_left_by_rest" sLeftRest f ["_law_number", "_law_deed_here", "_law_told", "_law_counts", "_law_lasts", "_law_standing", "_law_places_here"]) (B : Blt mg) (bany : mg "any" = none) (Gi : FnP P w K mg base 5 gi ["_law_row", "_law_number", "_law_reason", "_law_counts", "_law_lasts", "_law_standing"] (spIsGoing K)) (hgi : mg "_law_is_going" = some (.ref gi)) :
    FnP P w K mg base 7 f ["_law_number", "_law_deed_here", "_law_told", "_law_counts", "_law_lasts", "_law_standing", "_law_places_here"] spLeftRest := by
  refine F.ok scLeftRest (fun vs H Q E h => ?_) (fun cdv A outer s H vs Q E hr h => ?_)
  · obtain ⟨num, places, q, tl, dc, dl, st, d, zs, xs, ys, f, l, rfl, _⟩ := h
    rfl
  · obtain ⟨num, places, q, tl, dc, dl, st, d, zs, xs, ys, f, l, rfl, hq, htl, hz, hst, few, hdc, hdl, ro, kk⟩ := h
    have hu := hu_of hr
    have hu' : _ < cLine := Nat.lt_of_succ_lt (hu_of hr)
    refine ⟨_, pss_cons (ps_set (i := 7) scLeftRest.nd rfl (Or.inl rfl) pe_str)
      (pss_cons (ps_join (ps_if (PW.pt (pw_and (pt_cmpR op_eq (pe_ix ix_tup (pv 1) pe_int (fun _ _ => rfl)) pe_str (nomark _)) (pw_and1 (pt_cmpR op_in_seq (pe_ix ix_tup (pv 1) pe_int (fun _ _ => rfl)) (pv 5) rfl)))) (pss_one (ps_set (i := 7) scLeftRest.nd rfl (Or.inl rfl) pe_str)) pss_nil))
      (pss_cons (ps_join (ps_if (PW.pt (pw_and (pt_cmpR op_eq (pe_ix ix_tup (pv 1) pe_int (fun _ _ => rfl)) pe_str (nomark _)) (pw_and (pt_cmpR op_notIn_seq (pe_ix ix_tup (pv 1) pe_int (fun _ _ => rfl)) (pv 5) rfl) (pw_and1 (pt_cmpR op_eq (pe_callB call_len_seq rfl B.len PySem.boot_len (pa_cons (pv 5) pa_nil)) (pv 6) (nomark _)))))) (pss_one (ps_set (i := 7) scLeftRest.nd rfl (Or.inl rfl) pe_str)) pss_nil))
      (pss_cons (ps_if (pt_cmpR op_eq (pv 7) pe_str (nomark _)) (pss_one (ps_ret (pe_ix ix_list (pe_lst (pa_cons (pe_callTy call_list_of rfl B.list PyProof.Rows.boot_list (pa_cons (pv 5) pa_nil)) (pa_cons pe_non pa_nil))) (pe_callTy call_int1 rfl B.int PyProof.Rows.boot_int (pa_cons (pe_cmpR op_gt (pe_callB call_len_seq rfl B.len PySem.boot_len (pa_cons (pv 2) pa_nil)) pe_int (nomark _)) pa_nil)) (fun _ _ => rfl)))) pss_nil)
      (pss_cons (ps_if (PW.pt (pw_or (pt_cmpR op_ne (pe_callB call_len_seq rfl B.len PySem.boot_len (pa_cons (pv 2) pa_nil)) pe_int (nomark _)) (pw_or1 (pt_not (pt_val (pe_callP Gi (hr.mono (by decide)) hgi (pa_cons (pe_ix ix_list (pv 2) pe_int (fun _ _ => rfl)) (pa_cons (pv 0) (pa_cons (pv 7) (pa_cons (pv 3) (pa_cons (pv 4) (pa_cons (pv 5) pa_nil)))))))))))) (pss_one (ps_ret pe_non)) pss_nil)
      (pss_cons (ps_set (i := 8) scLeftRest.nd rfl (Or.inr rfl) (pe_ix ix_tup (pe_ix ix_list (pv 2) pe_int (fun _ _ => rfl)) pe_int (fun _ _ => rfl)))
      (pss_cons (ps_join (ps_if (PW.pt (pw_and (pt_cmpR op_eq (pv 7) pe_str (nomark _)) (pw_and1 (pt_cmpR op_ne (pv 8) (pe_ix ix_tup (pv 1) pe_int (fun _ _ => rfl)) (nomark _))))) (pss_one (ps_ret pe_non)) pss_nil))
      (pss_cons (ps_setlc (g := gName 0) (i := 9) (N' := ["_law_name", "_law_went"]) (cap := [none, some 8]) scLeftRest.nd rfl rfl rfl rfl (pi_list (pv 5)) (fun _ _ _ _ _ => pg_name (i := 0) (by decide +kernel : (["_law_name", "_law_went"] : List Str).Nodup) rfl (Or.inl rfl)) (fun _ _ _ _ _ => pts_one (pt_cmpR op_ne (pv 0) (pv 1) (nomark _))) (fun _ _ _ _ _ => pv 0) rfl)
      (pss_cons (ps_set (i := 10) scLeftRest.nd rfl (Or.inr rfl) (pe_tup (pa_cons (pe_dget hu (pv 3) (pv 8) (fun _ _ => rfl)) (pa_cons (pe_dget hu (pv 4) (pv 8) (fun _ _ => rfl)) pa_nil))))
      (pss_cons (ps_join (ps_if (PW.pt (pw_and (pt_cmpR op_eq (pv 7) pe_str (nomark _)) (pw_and1 (pt_val (pe_callB (call_any rfl) rfl bany PyProof.Rows.boot_any (pa_cons
          (pe_lc (N' := ["_law_name", "_law_counts", "_law_lasts", "_law_rank"]) (cap := [none, some 3, some 4, some 10]) rfl rfl (pi_list (pv 9)) (fun _ _ _ _ _ => pg_name (i := 0) (by decide +kernel : (["_law_name", "_law_counts", "_law_lasts", "_law_rank"] : List Str).Nodup) rfl (Or.inl rfl)) (fun _ _ _ _ _ => pts_nil)
            (fun _ _ _ _ _ => pe_cmpR (op_ltTC (K := K) rfl hu') (pe_tup (pa_cons (dgetC hu (pv 1) (pv 0) (fun _ _ => rfl)) (pa_cons (dgetC hu (pv 2) (pv 0) (fun _ _ => rfl)) pa_nil))) (pv 3) (nomark _))) pa_nil)))))) (pss_one (ps_ret pe_non)) pss_nil))
      (pss_one (ps_ret (pv 9)))))))))))), ?_⟩
    -- the reason
    refine ⟨fun σ' H' => H = H' ∧ ∃ r1 : Str, σ' = [some (.int num), some (.ref q), some (.ref tl), some (.ref dc), some (.ref dl), some (.ref st), some (.int places), some (.str r1), none, none, none] ∧ (∀ n, d = .drop n → r1 = reasonOf places xs d) ∧ ((∀ n, d ≠ .drop n) → r1 = ""), ?_, ?_⟩
    · cases d with
      | ask n w' =>
        refine ⟨_, rfl, q, _, _, _, rfl, rfl, SqT.of hq, rfl, rfl, _, rfl, ?_⟩
        refine iteF ?_
        exact iteF ⟨rfl, "", rfl, fun n e => (nomatch e), fun _ => rfl⟩
      | rest z =>
        refine ⟨_, rfl, q, _, _, _, rfl, rfl, SqT.of hq, rfl, rfl, _, rfl, ?_⟩
        refine iteF ?_
        exact iteF ⟨rfl, "", rfl, fun n e => (nomatch e), fun _ => rfl⟩
      | drop n =>
        refine ⟨_, rfl, q, _, _, _, rfl, rfl, SqT.of hq, rfl, rfl, _, rfl, ?_⟩
        refine iteT ?_
        refine ⟨_, rfl, q, _, _, _, rfl, rfl, SqT.of hq, rfl, _, rfl, st, _, rfl, .inl (SqL.of hst), rfl, strs_flat xs, _, rfl, ?_⟩
        rw [if_neg Bool.false_ne_true, inV_strs]
        by_cases hn : n ∈ xs
        · rw [decide_eq_true hn]
          refine iteT ⟨rfl, _, rfl, fun m e => ?_, fun z => absurd rfl (z n)⟩
          show _ = if n ∈ xs then _ else _
          rw [if_pos hn]
        · rw [decide_eq_false hn]
          refine iteF ⟨rfl, _, rfl, fun m e => ?_, fun z => absurd rfl (z n)⟩
          show _ = if n ∈ xs then _ else _
          rw [if_neg hn]
    rintro σ' H' ⟨rfl, r1, rfl, r1d, r1n⟩
    refine ⟨fun σ' H' => H = H' ∧ σ' = [some (.int num), some (.ref q), some (.ref tl), some (.ref dc), some (.ref dl), some (.ref st), some (.int places), some (.str (reasonOf places xs d)), none, none, none], ?_, ?_⟩
    · cases d with
      | drop n =>
        have := r1d n rfl
        subst this
        refine ⟨_, rfl, q, _, _, _, rfl, rfl, SqT.of hq, rfl, rfl, _, rfl, ?_⟩
        refine iteF ?_
        exact iteF ⟨rfl, rfl⟩
      | rest z =>
        have := r1n fun n e => (nomatch e)
        subst this
        refine ⟨_, rfl, q, _, _, _, rfl, rfl, SqT.of hq, rfl, rfl, _, rfl, ?_⟩
        refine iteF ?_
        exact iteF ⟨rfl, rfl⟩
      | ask n w' =>
        have := r1n fun n e => (nomatch e)
        subst this
        refine ⟨_, rfl, q, _, _, _, rfl, rfl, SqT.of hq, rfl, rfl, _, rfl, ?_⟩
        refine iteT ?_
        refine ⟨_, rfl, q, _, _, _, rfl, rfl, SqT.of hq, rfl, _, rfl, st, _, rfl, .inl (SqL.of hst), rfl, strs_flat xs, _, rfl, ?_⟩
        rw [if_pos rfl, inV_strs]
        by_cases hn : n ∈ xs
        · rw [decide_eq_true hn]
          refine iteF ?_
          refine iteF ⟨rfl, ?_⟩
          rw [show reasonOf places xs (.ask n w') = "" from if_neg fun z => z.1 hn]
          try rfl
        · rw [decide_eq_false hn]
          refine iteT ?_
          refine ⟨_, rfl, st, _, rfl, .inl (SqL.of hst), _, rfl, rfl, _, rfl, ?_⟩
          rw [List.length_map]
          by_cases hp : (xs.length : Int) = places
          · rw [decide_eq_true (show V.int (xs.length : Int) = V.int places by rw [hp])]
            refine iteT ⟨rfl, ?_⟩
            rw [show reasonOf places xs (.ask n w') = "crowded" from if_pos ⟨hn, hp⟩]
            try rfl
          · rw [decide_eq_false (show ¬ V.int (xs.length : Int) = V.int places from fun z => hp (V.int.inj z))]
            refine iteF ⟨rfl, ?_⟩
            rw [show reasonOf places xs (.ask n w') = "" from if_neg fun z => hp z.2]
            try rfl
    rintro σ' H' ⟨rfl, rfl⟩
    rcases ro with ⟨er, ez, ey⟩ | ⟨m, hm, er, ez, ey, hdrop, hask⟩
    · -- nothing more goes
      refine ⟨_, rfl, rfl, _, rfl, ?_⟩
      rw [er, decide_eq_true rfl]
      refine iteT ?_
      have ez : zs = [] := List.map_eq_nil_iff.mp ez
      subst ez ey
      refine ⟨_, rfl, st, _, rfl, .inl (SqL.of hst), fun p hp => ⟨(by show 2 ≤ sizeLine; decide), fun p2 hp2 => ?_⟩⟩
      have S1 : Same H (upd H p (.lst (ys.map V.str))) := Same.upd hp
      have hp1 : (upd H p (.lst (ys.map V.str))) p = some (.lst (ys.map V.str)) := upd_same
      generalize upd H p (.lst (ys.map V.str)) = H1 at S1 hp1 hp2 ⊢
      have S2 : Same H1 (upd H1 p2 (.lst [V.ref p, .non])) := Same.upd hp2
      have hp22 : (upd H1 p2 (.lst [V.ref p, .non])) p2 = some (.lst [V.ref p, .non]) := upd_same
      generalize upd H1 p2 (.lst [V.ref p, .non]) = H2 at S2 hp22 ⊢
      have S12 := S1.trans S2
      refine ⟨_, rfl, tl, _, rfl, .inl (SqL.of (S12 _ _ htl)), _, _, rfl, rfl, .inr ⟨_, rfl, ?_⟩⟩
      exact ⟨p2, _, _, _, rfl, rfl, SqL.of hp22, rfl, kk p H2 hp S12 (S2 _ _ hp1)⟩
    · -- one goes
      have hne : V.str (reasonOf places xs d) ≠ V.str "" := fun z => er (V.str.inj z)
      refine ⟨_, rfl, rfl, _, rfl, ?_⟩
      rw [decide_eq_false hne]
      refine iteF ?_
      obtain ⟨a, rfl⟩ : ∃ a, zs = [(a, ⟨num, m, reasonOf places xs d, f m, l m⟩)] := by
        match zs, ez with
        | [], ez => cases ez
        | [z], ez =>
          have : z.2 = _ := (List.cons.inj ez).1
          exact ⟨z.1, by rw [← this]⟩
        | _ :: _ :: _, ez => simp at ez
      have ha := hz _ (List.mem_singleton.mpr rfl)
      generalize hrs : reasonOf places xs d = rs at *
      refine ⟨_, rfl, tl, _, rfl, .inl (SqL.of htl), rfl, _, rfl, ?_⟩
      refine iteF ?_
      refine ⟨_, rfl, tl, _, _, _, rfl, rfl, SqL.of htl, rfl, _, rfl, _, rfl, _, rfl, _, rfl, _, rfl, a, dc, dl, st, ⟨num, m, rs, f m, l m⟩, xs, rfl, ha, SqL.of hst, hm, hdc.get hm, hdl.get hm, fun H1 S1 => ⟨true, rfl, ?_⟩⟩
      refine iteF ?_
      have htl1 := S1 _ _ htl
      have ha1 := S1 _ _ ha
      have hst1 := S1 _ _ hst
      refine ⟨_, rfl, tl, _, _, _, rfl, rfl, SqL.of htl1, rfl, a, _, _, _, rfl, rfl, SqT.of ha1, atI_nat (j := 1) (v := .str m) rfl, ?_⟩
      refine ⟨fun σ' H' => H1 = H' ∧ σ' = [some (.int num), some (.ref q), some (.ref tl), some (.ref dc), some (.ref dl), some (.ref st), some (.int places), some (.str rs), some (.str m), none, none], ?_, ?_⟩
      · cases d with
        | rest z => exact absurd hrs.symm er
        | drop n =>
          have em := hdrop n rfl
          subst em
          have hrs' : rs = "dropped" := by
            rw [← hrs]
            exact if_pos hm
          subst hrs'
          refine ⟨_, rfl, rfl, _, rfl, ?_⟩
          refine iteT ?_
          refine ⟨_, rfl, _, rfl, q, _, _, _, rfl, rfl, SqT.of (S1 _ _ hq), rfl, rfl, _, rfl, ?_⟩
          rw [decide_eq_true rfl]
          exact iteF ⟨rfl, rfl⟩
        | ask n w' =>
          have hrs' : rs = "crowded" := by
            by_cases c : n ∉ xs ∧ (xs.length : Int) = places
            · rw [← hrs]; exact if_pos c
            · exact absurd (hrs.symm.trans (if_neg c)) er
          subst hrs'
          refine ⟨_, rfl, rfl, _, rfl, ?_⟩
          refine iteF ?_
          exact iteF ⟨rfl, rfl⟩
      rintro σ' H' ⟨rfl, rfl⟩
      -- left
      refine ⟨_, rfl, st, rfl, ⟨_, SqL.of hst1⟩, ?_⟩
      have lenl : xs.length ≤ sizeLine := Nat.le_trans few (by decide)
      refine lc_go xs.length (fun i ys σ' H' => ys = ((xs.take i).filter fun n => decide (n ≠ m)).map V.str ∧ H' = H1 ∧ ∃ v, σ' = [v, some (.str m)]) ⟨rfl, rfl, none, rfl⟩ lenl ?_ ?_ ?_ ?_
      · rintro i ys σ' H' hi ⟨_, rfl, _⟩
        exact ⟨_, .str xs[i], SqL.of hst1, by simp [hi]⟩
      · rintro ys σ' H' ⟨_, rfl, _⟩
        exact ⟨_, SqL.of hst1, by rw [List.length_map]; exact Nat.le_refl _⟩
      · rintro i ys σ' H' v H3 hi hl' ⟨rfl, rfl, w', rfl⟩ ⟨rfl, hy⟩
        have hv : v = .str xs[i] := by
          have := hy _ (SqL.of hst1)
          rw [List.getElem?_map, List.getElem?_eq_getElem hi] at this
          exact (Option.some.inj this).symm
        subst hv
        refine ⟨_, rfl, _, rfl, rfl, _, rfl, ?_⟩
        by_cases c : xs[i] = m
        · rw [decide_eq_true (show V.str xs[i] = V.str m by rw [c])]
          refine iteF (lcNo hi hl' ⟨?_, rfl, _, rfl⟩)
          rw [List.take_succ_eq_append_getElem hi, List.filter_append, List.filter_cons, if_neg (by rw [decide_eq_true_eq]; exact fun z => z c), List.filter_nil, List.append_nil]
        · rw [decide_eq_false (show ¬ V.str xs[i] = V.str m from fun z => c (V.str.inj z))]
          refine iteT ⟨_, rfl, lcYes hi hl' lenl ⟨?_, rfl, _, rfl⟩⟩
          rw [List.take_succ_eq_append_getElem hi, List.filter_append, List.filter_cons, if_pos (decide_eq_true c), List.filter_nil, List.map_append]
          rfl
      rintro ys' σ' H' ⟨rfl, rfl, w', rfl⟩ p hp
      rw [List.take_length, ← ey]
      have S2 : Same H' (upd H' p (.lst (ys.map V.str))) := Same.upd hp
      have hp1 : (upd H' p (.lst (ys.map V.str))) p = some (.lst (ys.map V.str)) := upd_same
      generalize upd H' p (.lst (ys.map V.str)) = H2 at S2 hp1 ⊢
      have S12 := S1.trans S2
      have fin : ∀ H3, Same H2 H3 → Q (.ref p) H3 := fun H3 S3 => kk p H3 (S1.free hp) (S12.trans S3) (S3 _ _ hp1)
      -- rank
      refine ⟨_, rfl, _, rfl, dc, _, rfl, (hdc.same S12).get hm, _, rfl, _, rfl, dl, _, rfl, (hdl.same S12).get hm, (by show 2 ≤ sizeLine; decide), fun rk hrk => ?_⟩
      have S3 : Same H2 (upd H2 rk (.tup [.int (f m), .int (l m)])) := Same.upd hrk
      have hrk1 : (upd H2 rk (.tup [.int (f m), .int (l m)])) rk = some (.tup ([f m, l m].map V.int)) := upd_same
      generalize upd H2 rk (.tup [.int (f m), .int (l m)]) = H3 at S3 hrk1 ⊢
      have hp3 := S3 _ _ hp1
      refine ⟨fun σ' H' => Same H2 H' ∧ σ' = [some (.int num), some (.ref q), some (.ref tl), some (.ref dc), some (.ref dl), some (.ref st), some (.int places), some (.str rs), some (.str m), some (.ref p), some (.ref rk)], ?_, ?_⟩
      · cases d with
        | rest z => exact absurd hrs.symm er
        | drop n =>
          have hrs' : rs = "dropped" := by
            by_cases c : n ∈ xs
            · rw [← hrs]; exact if_pos c
            · exact absurd (hrs.symm.trans (if_neg c)) er
          subst hrs'
          refine ⟨_, rfl, rfl, _, rfl, ?_⟩
          refine iteF ?_
          exact iteF ⟨S3, rfl⟩
        | ask n w' =>
          have hask := hask n w' rfl
          have hrs' : rs = "crowded" := by
            by_cases c : n ∉ xs ∧ (xs.length : Int) = places
            · rw [← hrs]; exact if_pos c
            · exact absurd (hrs.symm.trans (if_neg c)) er
          subst hrs'
          refine ⟨_, rfl, rfl, _, rfl, ?_⟩
          refine iteT ?_
          refine ⟨_, rfl, p, rfl, ⟨_, SqL.of hp3⟩, ?_⟩
          have key : ∀ n ∈ ys, n ∈ xs ∧ HT.lexLt [f n, l n] [f m, l m] = false := fun n hn => by
            rw [ey] at hn
            obtain ⟨a, b⟩ := List.mem_filter.mp hn
            exact ⟨a, hask n a (of_decide_eq_true b)⟩
          have leny : ys.length ≤ sizeLine := by
            rw [ey]
            exact Nat.le_trans (List.length_filter_le _ _) lenl
          refine lc_go ys.length (fun i zs σ' H' => zs = List.replicate i (V.bl false) ∧ Same H3 H' ∧ ∃ v, σ' = [v, some (.ref dc), some (.ref dl), some (.ref rk)]) ⟨rfl, Same.refl _, none, rfl⟩ leny ?_ ?_ ?_ ?_
          · rintro i zs σ' H' hi ⟨_, SS, _⟩
            exact ⟨_, .str ys[i], SqL.of (SS _ _ hp3), by simp [hi]⟩
          · rintro zs σ' H' ⟨_, SS, _⟩
            exact ⟨_, SqL.of (SS _ _ hp3), by rw [List.length_map]; exact Nat.le_refl _⟩
          · rintro i zs σ' H4 v H5 hi hl' ⟨rfl, SS, w', rfl⟩ ⟨rfl, hy⟩
            have hv : v = .str ys[i] := by
              have := hy _ (SqL.of (SS _ _ hp3))
              rw [List.getElem?_map, List.getElem?_eq_getElem hi] at this
              exact (Option.some.inj this).symm
            subst hv
            obtain ⟨kx, kf⟩ := key _ (List.getElem_mem hi)
            have S13 := S12.trans (S3.trans SS)
            refine ⟨_, rfl, _, rfl, dc, _, rfl, (hdc.same S13).get kx, _, rfl, _, rfl, dl, _, rfl, (hdl.same S13).get kx, (by show 2 ≤ sizeLine; decide), fun t2 ht2 => ?_⟩
            refine ⟨_, rfl, t2, rk, [f ys[i], l ys[i]], [f m, l m], rfl, rfl, SqT.of upd_same, SqT.of (Same.upd ht2 _ _ (SS _ _ hrk1)), ?_⟩
            rw [kf]
            refine lcYes hi hl' leny ⟨?_, SS.trans (Same.upd ht2), _, rfl⟩
            rw [List.replicate_succ']
          · rintro zs σ' H4 ⟨rfl, SS, w', rfl⟩ p2 hp2
            refine ⟨p2, List.replicate ys.length false, rfl, SqL.of ?_, _, rfl, ?_⟩
            · rw [upd_same, List.map_replicate]
            rw [show (List.replicate ys.length false).any id = false by simp]
            exact iteF ⟨(S3.trans SS).trans (Same.upd hp2), rfl⟩
      rintro σ' H' ⟨S4, rfl⟩
      exact ⟨_, rfl, fin _ S4⟩
/-! ### _law_listed -/
def spListed : Sp := fun vs H Q _ => ∃ (fa st dc dl : Addr) (xs ys : List Str) (f l : Str → Int), vs = [.ref fa, .ref st, .ref dc, .ref dl] ∧ H fa = some (.lst (ys.map V.str)) ∧ H st = some (.lst (xs.map V.str)) ∧ xs.length < 64 ∧ DictF H dc xs f ∧ DictF H dl xs l ∧ (xs.map fun n => [f n, l n]).Pairwise (· ≠ ·) ∧
  ys.Perm xs ∧ ys.Pairwise (fun a b => HT.lexLt [f a, l a] [f b, l b] = true) ∧ ∀ H', Same H H' → Q (.bl true) H'
theorem scListed : FnScope ["_law_found", "_law_standing", "_law_counts", "_law_lasts", "_law_due"] ["_law_found", "_law_standing", "_law_counts", "_law_lasts"] (defScope sListed) := ⟨rfl, rfl, rfl, by decide +kernel, rfl, by decide +kernel, by decide +kernel⟩
theorem sorted_perm {α : Type} {r : α → α → Prop} (asy : ∀ a b, r a b → ¬ r b a) : ∀ {l m : List α}, l.Perm m → l.Pairwise r → m.Pairwise r → l = m
  | [], m, p, _, _ => (List.nil_perm.mp p).symm
  | x :: l, [], p, _, _ => by cases List.perm_nil.mp p
  | x :: l, y :: m, p, h1, h2 => by
    obtain ⟨a1, a2⟩ := List.pairwise_cons.mp h1
    obtain ⟨b1, b2⟩ := List.pairwise_cons.mp h2
    have e : x = y := by
      rcases List.mem_cons.mp (p.mem_iff.mp List.mem_cons_self) with e | e
      · exact e
      · rcases List.mem_cons.mp (p.mem_iff.mpr List.mem_cons_self) with e' | e'
        · exact e'.symm
        · exact absurd (a1 y e') (asy _ _ (b1 x e))
    subst e
    rw [sorted_perm asy (List.Perm.cons_inv p) a2 b2]
set_option maxHeartbeats 4000000 in
theorem ok_listed {f : Addr} (F : FunB K "_law_listed" "_law_listed" sListed f ["_law_found", "_law_standing", "_law_counts", "_law_lasts"]) (B : Blt mg) : FnP P w K mg base 1 f ["_law_found", "_law_standing", "_law_counts", "_law_lasts"] spListed := by
  refine F.ok scListed (fun vs H Q E h => ?_) (fun cdv A outer s H vs Q E hr h => ?_)
  · obtain ⟨fa, st, dc, dl, xs, ys, f, l, rfl, _⟩ := h
    rfl
  · obtain ⟨fa, st, dc, dl, xs, ys, f, l, rfl, hfa, hst, few, hdc, hdl, hdiff, hpm, hpw, kk⟩ := h
    have hu := hu_of hr
    have hu' : _ < cLine := Nat.lt_of_succ_lt (hu_of hr)
    refine ⟨_, pss_cons (ps_set (i := 4) scListed.nd rfl (Or.inl rfl) (pe_callB (call_sorted rfl) rfl B.sorted PyProof.Rows.boot_sorted (pa_cons
        (pe_lc (N' := ["_law_name", "_law_counts", "_law_lasts"]) (cap := [none, some 2, some 3]) rfl rfl (pi_list (pv 1)) (fun _ _ _ _ _ => pg_name (i := 0) (by decide +kernel : (["_law_name", "_law_counts", "_law_lasts"] : List Str).Nodup) rfl (Or.inl rfl)) (fun _ _ _ _ _ => pts_nil)
          (fun _ _ _ _ _ => pe_tup (pa_cons (dgetC hu (pv 1) (pv 0) (fun _ _ => rfl)) (pa_cons (dgetC hu (pv 2) (pv 0) (fun _ _ => rfl)) (pa_cons (pv 0) pa_nil))))) pa_nil)))
      (pss_one (ps_ret (pe_and (pe_isi B.isi B.list (pv 0) PyProof.Rows.boot_list) (pe_one (pe_cmpR (op_eqL hu') (pv 0)
        (pe_lc (g := gTup K 3 (gCons (gName 0) (gCons (gName 1) (gCons (gName 2) gNil)))) (N' := ["_law_count", "_law_last", "_law_name"]) (cap := [none, none, none]) rfl rfl (pi_list (pv 4)) (fun _ _ _ _ _ => (pg_tup (n := 3) rfl (pgs_cons (pg_name (i := 0) (by decide +kernel : (["_law_count", "_law_last", "_law_name"] : List Str).Nodup) rfl (Or.inl rfl) (Or.inr rfl)) (pgs_cons (pg_name (i := 1) (by decide +kernel : (["_law_count", "_law_last", "_law_name"] : List Str).Nodup) rfl (Or.inl rfl) (Or.inr rfl)) (pgs_cons (pg_name (i := 2) (by decide +kernel : (["_law_count", "_law_last", "_law_name"] : List Str).Nodup) rfl (Or.inl rfl) (Or.inr rfl)) pgs_nil))))) (fun _ _ _ _ _ => pts_nil)
          (fun _ _ _ _ _ => (pv 2))) (nomark _)))))), ?_⟩
    have lenl : xs.length ≤ sizeLine := Nat.le_trans (Nat.le_of_lt few) (by decide)
    refine ⟨_, rfl, st, rfl, ⟨_, SqL.of hst⟩, ?_⟩
    refine lc_go xs.length (fun i ys σ' H' => ∃ ts : List (Addr × Str), ys = ts.map (fun q => V.ref q.1) ∧ ts.map (·.2) = xs.take i ∧ (∀ q ∈ ts, H' q.1 = some (.tup ([f q.2, l q.2].map V.int ++ [.str q.2]))) ∧ Same H H' ∧ ∃ v, σ' = [v, some (.ref dc), some (.ref dl)]) ⟨[], rfl, rfl, by simp, Same.refl _, none, rfl⟩ lenl ?_ ?_ ?_ ?_
    · rintro i ys σ' H' hi ⟨ts, _, _, _, SS, _⟩
      exact ⟨_, .str xs[i], SqL.of (SS _ _ hst), by simp [hi]⟩
    · rintro ys σ' H' ⟨ts, _, _, _, SS, _⟩
      exact ⟨_, SqL.of (SS _ _ hst), by rw [List.length_map]; exact Nat.le_refl _⟩
    · rintro i ys σ' H1 v H2 hi hl' ⟨ts, rfl, h2, h3, SS, w', rfl⟩ ⟨rfl, hy⟩
      have hv : v = .str xs[i] := by
        have := hy _ (SqL.of (SS _ _ hst))
        rw [List.getElem?_map, List.getElem?_eq_getElem hi] at this
        exact (Option.some.inj this).symm
      subst hv
      have hx : xs[i] ∈ xs := List.getElem_mem hi
      refine ⟨_, rfl, _, rfl, dc, _, rfl, (hdc.same SS).get hx, _, rfl, _, rfl, dl, _, rfl, (hdl.same SS).get hx, _, rfl, (by show 3 ≤ sizeLine; decide), fun q hq => ?_⟩
      refine lcYes hi hl' lenl ⟨ts ++ [(q, xs[i])], by rw [List.map_append]; rfl, by rw [List.map_append, h2, List.take_succ_eq_append_getElem hi]; rfl, fun z hz => ?_, SS.trans (Same.upd hq), _, rfl⟩
      rcases List.mem_append.mp hz with e | e
      · exact Same.upd hq _ _ (h3 z e)
      · rw [List.mem_singleton.mp e]
        exact upd_same
    rintro ys' σ' H1 ⟨ts, rfl, h2, h3, SS, w', rfl⟩ p hp
    rw [List.take_length] at h2
    have S1 : Same H1 (upd H1 p (.lst (ts.map fun q => V.ref q.1))) := Same.upd hp
    have hp1 : (upd H1 p (.lst (ts.map fun q => V.ref q.1))) p = some (.lst (ts.map fun q => V.ref q.1)) := upd_same
    have h3' : ∀ q ∈ ts, (upd H1 p (.lst (ts.map fun q => V.ref q.1))) q.1 = some (.tup ([f q.2, l q.2].map V.int ++ [.str q.2])) := fun q hq => S1 _ _ (h3 q hq)
    have SS1 := SS.trans S1
    generalize upd H1 p (.lst (ts.map fun q => V.ref q.1)) = H2 at S1 hp1 h3' SS1 ⊢
    have htl : ts.length < 64 := by
      have := congrArg List.length h2
      rw [List.length_map] at this
      omega
    refine ⟨_, ts.map (fun q => (V.ref q.1, [f q.2, l q.2])), 2, rfl, ⟨p, rfl, .inl ?_⟩, by rw [List.length_map]; exact htl, by decide, ?_, ?_, ?_, ?_⟩
    · rw [List.map_map]; exact SqL.of hp1
    · intro z hz
      obtain ⟨q, hq, rfl⟩ := List.mem_map.mp hz
      rfl
    · rw [List.map_map]
      have : (ts.map ((fun z : V × List Int => z.2) ∘ fun q => (V.ref q.1, [f q.2, l q.2]))) = (ts.map (·.2)).map fun n => [f n, l n] := by rw [List.map_map]; rfl
      rw [this, h2]
      exact hdiff
    · intro z hz
      obtain ⟨q, hq, rfl⟩ := List.mem_map.mp hz
      exact ⟨q.1, [.str q.2], rfl, SqT.of (h3' q hq)⟩
    · intro qs D hsb hD
      obtain ⟨us, hp2, rfl⟩ := perm_map_back _ hsb.1
      have SD : Same H2 (upd H2 D (.lst ((us.map fun q => (V.ref q.1, [f q.2, l q.2])).map (·.1)))) := Same.upd hD
      have hDl : (upd H2 D (.lst ((us.map fun q => (V.ref q.1, [f q.2, l q.2])).map (·.1)))) D = some (.lst (us.map fun q => V.ref q.1)) := by rw [upd_same, List.map_map]; rfl
      have hus : ∀ q ∈ us, (upd H2 D (.lst ((us.map fun q => (V.ref q.1, [f q.2, l q.2])).map (·.1)))) q.1 = some (.tup ([f q.2, l q.2].map V.int ++ [.str q.2])) := fun q hq => SD _ _ (h3' q (hp2.mem_iff.mp hq))
      have hS3 := SS1.trans SD
      have hul : us.length < 64 := by rw [hp2.length_eq]; exact htl
      have hpw2 := hsb.2
      rw [List.pairwise_map] at hpw2
      generalize upd H2 D (.lst ((us.map fun q => (V.ref q.1, [f q.2, l q.2])).map (·.1))) = H4 at hDl hus hS3 ⊢
      have eo : us.map (·.2) = ys := by
        refine sorted_perm (r := fun a b => HT.lexLt [f a, l a] [f b, l b] = true) (fun a b z1 z2 => by rw [lexLt_asy z1] at z2; cases z2) ?_ (List.pairwise_map.mpr hpw2) hpw
        refine (hp2.map (·.2)).trans ?_
        rw [h2]
        exact hpm.symm
      refine ⟨_, rfl, _, "list", _, _, rfl, .lst (hS3 _ _ hfa), kit_ll K, _, rfl, ?_⟩
      refine iteT ?_
      have lenu : us.length ≤ sizeLine := Nat.le_trans (Nat.le_of_lt hul) (by decide)
      refine ⟨_, rfl, _, rfl, D, rfl, ⟨_, SqL.of hDl⟩, ?_⟩
      refine lc_go us.length (fun i ys σ' H' => ys = (us.take i).map (fun q => V.str q.2) ∧ H' = H4 ∧ ∃ v1 v2 v3, σ' = [v1, v2, v3]) ⟨rfl, rfl, none, none, none, rfl⟩ lenu ?_ ?_ ?_ ?_
      · rintro i ys σ' H' hi ⟨rfl, rfl, _⟩
        exact ⟨_, .ref us[i].1, SqL.of hDl, by simp [hi]⟩
      · rintro ys σ' H' ⟨rfl, rfl, _⟩
        exact ⟨_, SqL.of hDl, by rw [List.length_map]; exact Nat.le_refl _⟩
      · rintro i ys σ' H' x H5 hi hl ⟨rfl, rfl, v1, v2, v3, rfl⟩ hy
        obtain ⟨rfl, hy⟩ := hy
        have hy := hy _ (SqL.of hDl)
        rw [List.getElem?_map, List.getElem?_eq_getElem hi] at hy
        have hy : V.ref us[i].1 = x := Option.some.inj hy
        subst hy
        have hq := hus us[i] (List.getElem_mem _)
        refine ⟨us[i].1, _, rfl, SqT.of hq, rfl, _, _, rfl, _, _, rfl, _, _, rfl, rfl, ?_⟩
        refine ⟨_, rfl, ?_⟩
        refine lcYes hi hl lenu ⟨?_, rfl, _, _, _, rfl⟩
        rw [List.take_succ_eq_append_getElem hi, List.map_append]
        rfl
      · rintro ys' σ' H' ⟨rfl, rfl, v1, v2, v3, rfl⟩ q hq
        have S5 : Same H' (upd H' q (.lst ((us.take us.length).map fun q => V.str q.2))) := Same.upd hq
        refine ⟨fa, q, _, ys.map V.str, rfl, rfl, SqL.of (S5 _ _ (hS3 _ _ hfa)), SqL.of ?_, strs_flat _, strs_flat _, ?_⟩
        · rw [upd_same, List.take_length, ← eo, List.map_map]; rfl
        · rw [if_neg Bool.false_ne_true, eqVs_strs, decide_eq_true rfl]
          exact kk _ (hS3.trans S5)
end
end Lk

namespace Lk
open PySem L2
theorem cut_tail {ts : List Addr} (k : Nat) (h : k ≤ ts.length) : cutV (ts.map V.ref) (some (k : Int)) none = (ts.drop k).map V.ref := by
  unfold cutV
  rw [HT.sIx_nat, HT.sIx_none, List.length_map, Nat.min_eq_left h, List.map_drop, List.take_of_length_le]
  rw [List.length_drop, List.length_map]
  exact Nat.le_refl _
theorem cut_head {ts : List Addr} (k : Nat) (h : k ≤ ts.length) : cutV (ts.map V.ref) none (some (k : Int)) = (ts.take k).map V.ref := by
  unfold cutV
  rw [HT.sIx_nat, HT.sIx_none, List.length_map, Nat.min_eq_left h, List.map_take, List.drop_zero, Nat.sub_zero]
def Dd.nm : Dd → Str
  | .ask n _ => n
  | .rest _ => ""
  | .drop n => n
theorem Dd.v1 (d : Dd) : atI (Dd.v d) 1 = some (.str d.nm) := by cases d <;> rfl
def outOf (x1 ys : List Str) : Dd → List Str
  | .ask n _ => if n ∈ x1 then ys else ys ++ [n]
  | .rest _ => ys
  | .drop _ => ys
section
variable {P : Program} {w : World} {K : PySem.W.Frag} {mg : Str → Option Value} {base : Heap}
/-! ### _law_walked -/
def spWalked : Sp := fun vs H Q _ => ∃ (num places : Int) (q tl dc dl st : Addr) (d : Dd) (x : V) (zf : List (Addr × (Int × Str))) (zr : List (Addr × Going)) (xs ys : List Str) (f l : Str → Int), vs = [.int num, .ref q, .ref tl, x, .ref dc, .ref dl, .ref st, .int places] ∧ H q = some (.tup (Dd.v d)) ∧
  H tl = some (.lst ((zf.map (·.1) ++ zr.map (·.1)).map V.ref)) ∧ (∀ z ∈ zf, H z.1 = some (.tup (fadeG num z.2).v)) ∧ (∀ z ∈ zr, H z.1 = some (.tup z.2.v) ∧ z.2.why ≠ "faded") ∧ zf.length + zr.length ≤ 64 ∧
  H st = some (.lst (xs.map V.str)) ∧ xs.Nodup ∧ xs.length ≤ 64 ∧ DictF H dc xs f ∧ DictF H dl xs l ∧ (zf.map fun z => z.2.2).Nodup ∧ (∀ z ∈ zf, z.2.2 ∈ xs ∧ f z.2.2 = 0 ∧ l z.2.2 = z.2.1 ∧ 0 < z.2.1) ∧ zf.Pairwise (fun a b => a.2.1 < b.2.1) ∧ (∀ n ∈ xs, n ∉ (zf.map fun z => z.2.2) → f n ≠ 0) ∧
  ((∀ z, d ≠ .rest z) → x = .bl (decide (d.nm ∈ xs.filter fun n => decide (n ∉ zf.map fun z => z.2.2)))) ∧ RestOf num places f l d (xs.filter fun n => decide (n ∉ zf.map fun z => z.2.2)) (zr.map (·.2)) ys ∧
  ∀ p H', H p = none → Same H H' → H' p = some (.lst ((outOf (xs.filter fun n => decide (n ∉ zf.map fun z => z.2.2)) ys d).map V.str)) → Q (.ref p) H'
theorem scWalked : FnScope ["_law_number", "_law_deed_here", "_law_told", "_law_found", "_law_counts", "_law_lasts", "_law_standing", "_law_places_here", "_law_faded", "_law_left", "_law_stood"] ["_law_number", "_law_deed_here", "_law_told", "_law_found", "_law_counts", "_law_lasts", "_law_standing", "_law_places_here"] (defScope sWalked) := ⟨rfl, rfl, rfl, by decide +kernel, rfl, by decide +kernel, by decide +kernel⟩
structure WG (P : Program) (w : World) (K : PySem.W.Frag) (mg : Str → Option Value) (base : Heap) where
  akinds : Addr
  kinds : FnP P w K mg base 3 akinds ["_law_row"] spKinds
  hkinds : mg "_law_kinds" = some (.ref akinds)
  afaded : Addr
  faded : FnP P w K mg base 7 afaded ["_law_number", "_law_told", "_law_counts", "_law_lasts", "_law_standing"] spLeftFaded
  hfaded : mg "_law_left_by_faded" = some (.ref afaded)
  arest : Addr
  rest : FnP P w K mg base 7 arest ["_law_number", "_law_deed_here", "_law_told", "_law_counts", "_law_lasts", "_law_standing", "_law_places_here"] spLeftRest
  hrest : mg "_law_left_by_rest" = some (.ref arest)
set_option maxHeartbeats 4000000 in
theorem ok_walked {fw : Addr} (F : FunB K "_law_walked" "_law_walked" sWalked fw ["_law_number", "_law_deed_here", "_law_told", "_law_found", "_law_counts", "_law_lasts", "_law_standing", "_law_places_here"]) (B : Blt mg) (bany : mg "any" = none) (G : WG P w K mg base) :
    FnP P w K mg base 9 fw ["_law_number", "_law_deed_here", "_law_told", "_law_found", "_law_counts", "_law_lasts", "_law_standing", "_law_places_here"] spWalked := by
  refine F.ok scWalked (fun vs H Q E h => ?_) (fun cdv A outer s H vs Q E hr h => ?_)
  · obtain ⟨num, places, q, tl, dc, dl, st, d, x, zf, zr, xs, ys, f, l, rfl, _⟩ := h
    rfl
  · obtain ⟨num, places, q, tl, dc, dl, st, d, x, zf, zr, xs, ys, f, l, rfl, hq, htl, hzf, hzr, hlen, hst, nd, few, hdc, hdl, ndz, hzz, hpw, hleft, hx, ro, kk⟩ := h
    have hu := hu_of hr
    have hu' : _ < cLine := Nat.lt_of_succ_lt (hu_of hr)
    refine ⟨_, pss_cons (ps_if (pt_val (pe_callB (call_any rfl) rfl bany PyProof.Rows.boot_any (pa_cons
        (pe_lc (N' := ["_law_row"]) (cap := [none]) rfl rfl (pi_list (pv 2)) (fun _ _ _ _ _ => pg_name (i := 0) (by decide +kernel : (["_law_row"] : List Str).Nodup) rfl (Or.inl rfl)) (fun _ _ _ _ _ => pts_nil)
          (fun _ _ _ _ _ => pe_not (pe_callP G.kinds (hr.mono (by decide)) G.hkinds (pa_cons (pv 0) pa_nil)))) pa_nil))) (pss_one (ps_ret pe_non)) pss_nil)
      (pss_cons (ps_setlc (g := gName 0) (i := 8) (N' := ["_law_row"]) (cap := [none]) scWalked.nd rfl rfl rfl rfl (pi_list (pv 2)) (fun _ _ _ _ _ => pg_name (i := 0) (by decide +kernel : (["_law_row"] : List Str).Nodup) rfl (Or.inl rfl)) (fun _ _ _ _ _ => pts_one (pt_cmpR op_eq (pe_ix (ix_tupC (K := K) rfl) (pv 0) pe_int (fun _ _ => rfl)) pe_str (nomark _))) (fun _ _ _ _ _ => pv 0) rfl)
      (pss_cons (ps_if (pt_cmpR (op_neT hu) (pe_slice sl_list (pv 2) po_none (po_some (pe_callB call_len_seq rfl B.len PySem.boot_len (pa_cons (pv 8) pa_nil)))) (pv 8) (nomark _)) (pss_one (ps_ret pe_non)) pss_nil)
      (pss_cons (ps_set (i := 9) scWalked.nd rfl (Or.inl rfl) (pe_callP G.faded (hr.mono (by decide)) G.hfaded (pa_cons (pv 0) (pa_cons (pv 8) (pa_cons (pv 4) (pa_cons (pv 5) (pa_cons (pv 6) pa_nil)))))))
      (pss_cons (ps_if (pt_cmpR op_isN (pv 9) pe_non (nomark _)) (pss_one (ps_ret pe_non)) pss_nil)
      (pss_cons (ps_set (i := 10) scWalked.nd rfl (Or.inl rfl) (pe_cmpR op_in_seq (pe_ix ix_tup (pv 1) pe_int (fun _ _ => rfl)) (pv 9) rfl))
      (pss_cons (ps_join (ps_if (PW.pt (pw_and (pt_cmpR op_ne (pe_ix ix_tup (pv 1) pe_int (fun _ _ => rfl)) pe_str (nomark _)) (pw_and1 (PW.pt (pw_or (pt_not (pt_val (pe_isi B.isi B.bool (pv 3) PyProof.Rows.boot_bool))) (pw_or1 (pt_cmpR op_ne (pv 3) (pv 10) (nomark _)))))))) (pss_one (ps_ret pe_non)) pss_nil))
      (pss_cons (ps_set (i := 9) scWalked.nd rfl (Or.inl rfl) (pe_callP G.rest (hr.mono (by decide)) G.hrest (pa_cons (pv 0) (pa_cons (pv 1) (pa_cons (pe_slice sl_list (pv 2) (po_some (pe_callB call_len_seq rfl B.len PySem.boot_len (pa_cons (pv 8) pa_nil))) po_none) (pa_cons (pv 4) (pa_cons (pv 5) (pa_cons (pv 9) (pa_cons (pv 7) pa_nil)))))))))
      (pss_cons (ps_join (ps_if (PW.pt (pw_and (pt_cmpR op_notN (pv 9) pe_non (nomark _)) (pw_and (pt_cmpR op_eq (pe_ix ix_tup (pv 1) pe_int (fun _ _ => rfl)) pe_str (nomark _)) (pw_and1 (pt_not (pt_val (pv 10))))))) (pss_one (ps_expr (pe_bm PySem.F.plainAttrs_list PySem.F.slot_list_append PySem.F.type_list_append mt_append (pv 9) (pa_cons (pe_ix ix_tup (pv 1) pe_int (fun _ _ => rfl)) pa_nil)))) pss_nil))
      (pss_one (ps_ret (pv 9))))))))))), ?_⟩
    have hall : ∀ (i : Nat) (hi : i < (zf.map (·.1) ++ zr.map (·.1)).length), ∃ g : Going, H (zf.map (·.1) ++ zr.map (·.1))[i] = some (.tup g.v) ∧ (g.why = "faded" ↔ i < zf.length) := fun i hi => by
      by_cases c : i < zf.length
      · refine ⟨fadeG num zf[i].2, ?_, ⟨fun _ => c, fun _ => rfl⟩⟩
        rw [List.getElem_append_left (by rw [List.length_map]; exact c), List.getElem_map]
        exact hzf _ (List.getElem_mem c)
      · rw [List.length_append, List.length_map, List.length_map] at hi
        have c2 : i - zf.length < zr.length := by omega
        refine ⟨zr[i - zf.length].2, ?_, ⟨fun z => absurd z (hzr _ (List.getElem_mem c2)).2, fun z => absurd z c⟩⟩
        rw [List.getElem_append_right (by rw [List.length_map]; omega), List.getElem_map]
        have := (hzr _ (List.getElem_mem c2)).1
        simpa using this
    have htot : (zf.map (·.1) ++ zr.map (·.1)).length = zf.length + zr.length := by rw [List.length_append, List.length_map, List.length_map]
    have etake : (zf.map (·.1) ++ zr.map (·.1)).take zf.length = zf.map (·.1) := by
      rw [List.take_append_of_le_length (by rw [List.length_map]; exact Nat.le_refl _), List.take_of_length_le (by rw [List.length_map]; exact Nat.le_refl _)]
    have edrop : (zf.map (·.1) ++ zr.map (·.1)).drop zf.length = zr.map (·.1) := by
      rw [List.drop_append_of_le_length (by rw [List.length_map]; exact Nat.le_refl _), List.drop_of_length_le (by rw [List.length_map]; exact Nat.le_refl _), List.nil_append]
    generalize hts : zf.map (·.1) ++ zr.map (·.1) = ts at htl hall htot etake edrop
    have lenl : ts.length ≤ sizeLine := Nat.le_trans (show ts.length ≤ 64 by omega) (by decide)
    -- kinds
    refine ⟨_, rfl, tl, rfl, ⟨_, SqL.of htl⟩, ?_⟩
    refine lc_go ts.length (fun i ys σ' H' => ys = List.replicate i (V.bl false) ∧ H = H' ∧ ∃ v, σ' = [v]) ⟨rfl, rfl, none, rfl⟩ lenl ?_ ?_ ?_ ?_
    · rintro i ys σ' H' hi ⟨_, rfl, _⟩
      exact ⟨_, .ref ts[i], SqL.of htl, by simp [hi]⟩
    · rintro ys σ' H' ⟨_, rfl, _⟩
      exact ⟨_, SqL.of htl, by rw [List.length_map]; exact Nat.le_refl _⟩
    · rintro i ys σ' H' v H3 hi hl' ⟨rfl, rfl, w', rfl⟩ ⟨rfl, hy⟩
      have hv : v = .ref ts[i] := by
        have := hy _ (SqL.of htl)
        rw [List.getElem?_map, List.getElem?_eq_getElem hi] at this
        exact (Option.some.inj this).symm
      subst hv
      obtain ⟨g, hg, _⟩ := hall i hi
      refine ⟨_, rfl, _, g, rfl, hg, true, rfl, ?_⟩
      refine lcYes hi hl' lenl ⟨?_, rfl, _, rfl⟩
      rw [List.replicate_succ']
      rfl
    rintro ys0 σ' H' ⟨rfl, rfl, w', rfl⟩ p0 hp0
    refine ⟨p0, List.replicate ts.length false, rfl, SqL.of ?_, _, rfl, ?_⟩
    · rw [upd_same, List.map_replicate]
    rw [show (List.replicate ts.length false).any id = false by simp]
    refine iteF ?_
    have S0 : Same H (upd H p0 (.lst (List.replicate ts.length (V.bl false)))) := Same.upd hp0
    generalize upd H p0 (.lst (List.replicate ts.length (V.bl false))) = H0 at S0 ⊢
    -- faded
    have htl0 := S0 _ _ htl
    refine ⟨_, rfl, tl, rfl, ⟨_, SqL.of htl0⟩, ?_⟩
    refine lc_go ts.length (fun i ys σ' H' => ys = (ts.take (min i zf.length)).map V.ref ∧ H0 = H' ∧ ∃ v, σ' = [v]) ⟨by rw [Nat.zero_min]; rfl, rfl, none, rfl⟩ lenl ?_ ?_ ?_ ?_
    · rintro i ys σ' H' hi ⟨_, rfl, _⟩
      exact ⟨_, .ref ts[i], SqL.of htl0, by simp [hi]⟩
    · rintro ys σ' H' ⟨_, rfl, _⟩
      exact ⟨_, SqL.of htl0, by rw [List.length_map]; exact Nat.le_refl _⟩
    · rintro i ys σ' H' v H3 hi hl' ⟨rfl, rfl, w', rfl⟩ ⟨rfl, hy⟩
      have hv : v = .ref ts[i] := by
        have := hy _ (SqL.of htl0)
        rw [List.getElem?_map, List.getElem?_eq_getElem hi] at this
        exact (Option.some.inj this).symm
      subst hv
      obtain ⟨g, hg, hw⟩ := hall i hi
      refine ⟨_, rfl, ts[i], _, _, _, rfl, rfl, SqT.of (S0 _ _ hg), atI_nat (j := 2) (v := .str g.why) rfl, rfl, _, rfl, ?_⟩
      by_cases c : i < zf.length
      · rw [decide_eq_true (show V.str g.why = V.str "faded" by rw [hw.mpr c])]
        refine iteT ⟨_, rfl, lcYes hi hl' lenl ⟨?_, rfl, _, rfl⟩⟩
        rw [Nat.min_eq_left (by omega), Nat.min_eq_left (by omega), List.take_succ_eq_append_getElem hi, List.map_append]
        rfl
      · rw [decide_eq_false (show ¬ V.str g.why = V.str "faded" from fun z => c (hw.mp (V.str.inj z)))]
        refine iteF (lcNo hi hl' ⟨?_, rfl, _, rfl⟩)
        rw [Nat.min_eq_right (by omega), Nat.min_eq_right (by omega)]
    rintro ys0 σ' H' ⟨rfl, rfl, w', rfl⟩ pf hpf
    rw [Nat.min_eq_right (by omega), etake]
    have S1 : Same H0 (upd H0 pf (.lst ((zf.map (·.1)).map V.ref))) := Same.upd hpf
    have hpf1 : (upd H0 pf (.lst ((zf.map (·.1)).map V.ref))) pf = some (.lst ((zf.map (·.1)).map V.ref)) := upd_same
    generalize upd H0 pf (.lst ((zf.map (·.1)).map V.ref)) = H1 at S1 hpf1 ⊢
    have S01 := S0.trans S1
    -- told[:len(faded)] != faded
    refine ⟨_, rfl, _, rfl, pf, _, rfl, .inl (SqL.of hpf1), _, rfl, tl, _, rfl, SqL.of (S01 _ _ htl), fun s1 hs1 => ?_⟩
    rw [List.length_map, List.length_map, cut_head zf.length (by omega), etake]
    have S2 : Same H1 (upd H1 s1 (.lst ((zf.map (·.1)).map V.ref))) := Same.upd hs1
    have hs11 : (upd H1 s1 (.lst ((zf.map (·.1)).map V.ref))) s1 = some (.lst ((zf.map (·.1)).map V.ref)) := upd_same
    generalize upd H1 s1 (.lst ((zf.map (·.1)).map V.ref)) = H2 at S2 hs11 ⊢
    have S02 := S01.trans S2
    have hpf2 := S2 _ _ hpf1
    refine ⟨_, rfl, s1, pf, zf.map fun z => (z.1, (fadeG num z.2).v), zf.map fun z => (z.1, (fadeG num z.2).v), rfl, rfl, SqL.of (by rw [hs11, List.map_map, List.map_map]; rfl), SqL.of (by rw [hpf2, List.map_map, List.map_map]; rfl), fun z hz => ?_, fun z hz => ?_, rfl, _, rfl, ?_⟩
    · obtain ⟨y, hy, rfl⟩ := List.mem_map.mp hz
      exact ⟨SqT.of (S02 _ _ (hzf y hy)), rfl⟩
    · obtain ⟨y, hy, rfl⟩ := List.mem_map.mp hz
      exact SqT.of (S02 _ _ (hzf y hy))
    refine iteF ?_
    -- left = left_by_faded(..)
    refine ⟨_, rfl, _, rfl, _, rfl, _, rfl, _, rfl, num, pf, dc, dl, st, zf, xs, f, l, rfl, by rw [hpf2, List.map_map]; rfl, fun z hz => S02 _ _ (hzf z hz), S02 _ _ hst, nd, few, hdc.same S02, hdl.same S02, ndz, hzz, hpw, by omega, hleft, fun pl H3 hpl S3 hpl3 => ?_⟩
    have S03 := S02.trans S3
    have f1 : (xs.filter fun n => decide (n ∉ zf.map fun z => z.2.2)).length ≤ 64 := Nat.le_trans (List.length_filter_le _ _) few
    have s1' : ∀ n ∈ (xs.filter fun n => decide (n ∉ zf.map fun z => z.2.2)), n ∈ xs := fun n hn => (List.mem_filter.mp hn).1
    have kk := fun p H' => kk p H'
    generalize (xs.filter fun n => decide (n ∉ zf.map fun z => z.2.2)) = x1 at hpl3 hx ro kk f1 s1'
    refine ⟨_, rfl, rfl, _, rfl, ?_⟩
    refine iteF ?_
    -- stood
    have hq3 := S03 _ _ hq
    refine ⟨_, rfl, q, _, _, _, rfl, rfl, SqT.of hq3, Dd.v1 d, _, rfl, pl, _, rfl, .inl (SqL.of hpl3), rfl, strs_flat x1, ?_⟩
    rw [if_neg Bool.false_ne_true, inV_strs]
    -- the answer
    refine ⟨fun σ' H' => H3 = H' ∧ σ' = [some (.int num), some (.ref q), some (.ref tl), some x, some (.ref dc), some (.ref dl), some (.ref st), some (.int places), some (.ref pf), some (.ref pl), some (.bl (decide (d.nm ∈ x1)))], ?_, ?_⟩
    · cases d with
      | rest z =>
        refine ⟨_, rfl, q, _, _, _, rfl, rfl, SqT.of hq3, rfl, rfl, _, rfl, ?_⟩
        refine iteF ?_
        exact iteF ⟨rfl, rfl⟩
      | ask n w' =>
        have hx := hx fun z e => (nomatch e)
        subst hx
        refine ⟨_, rfl, q, _, _, _, rfl, rfl, SqT.of hq3, rfl, rfl, _, rfl, ?_⟩
        refine iteT ?_
        refine ⟨_, rfl, _, "bool", _, _, rfl, .bl _, kit_bb K, _, rfl, ?_⟩
        refine iteF ?_
        refine ⟨_, rfl, _, rfl, rfl, _, rfl, ?_⟩
        rw [decide_eq_true rfl]
        exact iteF ⟨rfl, rfl⟩
      | drop n =>
        have hx := hx fun z e => (nomatch e)
        subst hx
        refine ⟨_, rfl, q, _, _, _, rfl, rfl, SqT.of hq3, rfl, rfl, _, rfl, ?_⟩
        refine iteT ?_
        refine ⟨_, rfl, _, "bool", _, _, rfl, .bl _, kit_bb K, _, rfl, ?_⟩
        refine iteF ?_
        refine ⟨_, rfl, _, rfl, rfl, _, rfl, ?_⟩
        rw [decide_eq_true rfl]
        exact iteF ⟨rfl, rfl⟩
    rintro σ' H' ⟨rfl, rfl⟩
    -- left = left_by_rest(..)
    refine ⟨_, rfl, _, rfl, _, rfl, _, rfl, pf, _, rfl, .inl (SqL.of (S3 _ _ hpf2)), _, rfl, tl, _, rfl, SqL.of (S03 _ _ htl), fun s2 hs2 => ?_⟩
    rw [List.length_map, List.length_map, cut_tail zf.length (by omega), edrop]
    have S4 : Same H3 (upd H3 s2 (.lst ((zr.map (·.1)).map V.ref))) := Same.upd hs2
    have hs21 : (upd H3 s2 (.lst ((zr.map (·.1)).map V.ref))) s2 = some (.lst ((zr.map (·.1)).map V.ref)) := upd_same
    generalize upd H3 s2 (.lst ((zr.map (·.1)).map V.ref)) = H4 at S4 hs21 ⊢
    have S04 := S03.trans S4
    refine ⟨_, rfl, _, rfl, _, rfl, _, rfl, num, places, q, s2, dc, dl, pl, d, zr, x1, ys, f, l, rfl, S04 _ _ hq, by rw [hs21, List.map_map]; rfl, fun z hz => S04 _ _ (hzr z hz).1, S4 _ _ hpl3, f1, (hdc.same S04).sub s1', (hdl.same S04).sub s1', ro, fun p5 H5 hp5 S5 hp55 => ?_⟩
    have S05 := S04.trans S5
    have hq5 := S05 _ _ hq
    have free : H p5 = none := S04.free hp5
    have leny : ys.length ≤ 64 := by
      rcases ro with ⟨_, _, e⟩ | ⟨m, _, _, _, e, _⟩
      · rw [e]; exact f1
      · rw [e]; exact Nat.le_trans (List.length_filter_le _ _) f1
    refine ⟨fun σ' H' => σ' = [some (.int num), some (.ref q), some (.ref tl), some x, some (.ref dc), some (.ref dl), some (.ref st), some (.int places), some (.ref pf), some (.ref p5), some (.bl (decide (d.nm ∈ x1)))] ∧ Same H H' ∧ H' p5 = some (.lst ((outOf x1 ys d).map V.str)), ?_, ?_⟩
    · refine ⟨_, rfl, rfl, _, rfl, ?_⟩
      refine iteT ?_
      cases d with
      | rest z =>
        refine ⟨_, rfl, q, _, _, _, rfl, rfl, SqT.of hq5, rfl, rfl, _, rfl, ?_⟩
        refine iteF ?_
        exact iteF ⟨rfl, S05, hp55⟩
      | drop n =>
        refine ⟨_, rfl, q, _, _, _, rfl, rfl, SqT.of hq5, rfl, rfl, _, rfl, ?_⟩
        refine iteF ?_
        exact iteF ⟨rfl, S05, hp55⟩
      | ask n w' =>
        refine ⟨_, rfl, q, _, _, _, rfl, rfl, SqT.of hq5, rfl, rfl, _, rfl, ?_⟩
        refine iteT ?_
        refine ⟨_, rfl, _, rfl, ?_⟩
        show if (!decide (n ∈ x1)) = true then _ else _
        by_cases c : n ∈ x1
        · rw [decide_eq_true c]
          refine iteF ⟨?_, S05, ?_⟩
          · rw [show decide (Dd.nm (.ask n w') ∈ x1) = true from decide_eq_true c]
            rfl
          · rw [show outOf x1 ys (.ask n w') = ys from if_pos c]
            exact hp55
        · rw [decide_eq_false c]
          refine iteT ?_
          refine ⟨_, rfl, .inl ⟨rfl, _, SqL.of hp55⟩, _, rfl, q, _, _, _, rfl, rfl, SqT.of hq5, rfl, p5, _, _, rfl, rfl, hp55, Nat.lt_of_le_of_lt (show (ys.map V.str).length ≤ 64 by rw [List.length_map]; exact leny) (by decide), ?_⟩
          refine ⟨?_, fun b o e => ?_, ?_⟩
          · rw [show decide (Dd.nm (.ask n w') ∈ x1) = false from decide_eq_false c]
            rfl
          · rw [upd_ne (ne_of_none e free)]; exact S05 b o e
          · rw [upd_same, show outOf x1 ys (.ask n w') = ys ++ [n] from if_neg c, List.map_append]; rfl
    rintro σ' H6 ⟨rfl, S6, hp6⟩
    exact ⟨_, rfl, kk p5 H6 free S6 hp6⟩
end
end Lk

namespace Lk
open PySem L2
theorem sameFresh {H H' : Hp} {l : Addr} {o : HO} (s : Same H H') (h : H l = none) : Same H (upd H' l o) := fun b u e => by rw [upd_ne (ne_of_none e h)]; exact s _ _ e
section
variable {P : Program} {w : World} {K : PySem.W.Frag} {mg : Str → Option Value} {base : Heap} {C : Addr}
/-! ### _law_known -/
structure LkG (P : Program) (w : World) (K : PySem.W.Frag) (mg : Str → Option Value) (base : Heap) (C : Addr) where
  anames : Addr
  names : FnP P w K mg base 8 anames ["self"] (spSNames C)
  Mnames : Meth K C "names" anames
  agoings : Addr
  goings : FnP P w K mg base 1 agoings ["self"] (spSGoings C K)
  Mgoings : Meth K C "goings" agoings
  ahas : Addr
  has : FnP P w K mg base 4 ahas ["self", "name"] (spSHas C)
  Mhas : Meth K C "has" ahas
  acount : Addr
  count : FnP P w K mg base 4 acount ["self", "name"] (spCountOf (shelves C))
  Mcount : Meth K C "count_of" acount
  alast : Addr
  last : FnP P w K mg base 4 alast ["self", "name"] (spLastOf (shelves C))
  Mlast : Meth K C "last_of" alast
  atime : Addr
  time : FnP P w K mg base 1 atime ["self"] (spTime (shelves C))
  Mtime : Meth K C "time_now" atime
  adeeds : Addr
  deeds : FnP P w K mg base 1 adeeds ["self"] (spDeeds (shelves C))
  Mdeeds : Meth K C "deeds_done" adeeds
def spLKnown (C : Addr) : Sp := fun vs H Q _ => ∃ (κ : Kd ShS) (S : BS) (t : ShS) (n : Str) (st dc dl : Addr) (f l : Str → Int), (shelves C).is κ ∧ vs = [.ref κ.p, .str n, .ref st, .ref dc, .ref dl] ∧ GoodName n ∧ BookAt κ S t H ∧ H st = some (.lst (t.stand.map V.str)) ∧ DictF H dc [n] f ∧ DictF H dl [n] l ∧
  f n = cntE S n ∧ (cntE S n = 0 → lstE S n = none) ∧ (cntE S n ≠ 0 → lstE S n = some (l n)) ∧ ∀ H', Same H H' → Q (.bl true) H'
theorem scLKnown : FnScope ["_law_shelf", "_law_name", "_law_standing", "_law_counts", "_law_lasts", "_law_stands", "_law_count", "_law_last"] ["_law_shelf", "_law_name", "_law_standing", "_law_counts", "_law_lasts"] (defScope sLKnown) := ⟨rfl, rfl, rfl, by decide +kernel, rfl, by decide +kernel, by decide +kernel⟩
set_option maxHeartbeats 4000000 in
theorem ok_lKnown {f0 gw : Addr} (F : FunB K "_law_known" "_law_known" sLKnown f0 ["_law_shelf", "_law_name", "_law_standing", "_law_counts", "_law_lasts"]) (B : Blt mg) (T : STxt K C) (G : LkG P w K mg base C) (Gw : FnP P w K mg base 1 gw ["_law_found"] spLWhole) (hgw : mg "_law_whole" = some (.ref gw)) : FnP P w K mg base 6 f0 ["_law_shelf", "_law_name", "_law_standing", "_law_counts", "_law_lasts"] (spLKnown C) := by
  refine F.ok scLKnown (fun vs H Q E h => ?_) (fun cdv A outer s H vs Q E hr h => ?_)
  · obtain ⟨κ, S, t, n, st, dc, dl, f, l, _, rfl, _⟩ := h
    rfl
  · obtain ⟨κ, S, t, n, st, dc, dl, f, l, hκ, rfl, gn, B0, hst, hdc, hdl, ef, h0, h1, k⟩ := h
    have hC := (shelves C).cls κ hκ
    have O := (shelves C).ok κ hκ
    have hu := hu_of hr
    obtain ⟨dx, g1⟩ := id B0.ob
    rw [hC] at g1
    refine ⟨_, pss_cons (ps_set (i := 5) scLKnown.nd rfl (Or.inl rfl) (pe_methP (pv 0) T.cl G.Mhas G.has (hr.mono (by decide)) (pa_cons (pv 1) pa_nil)))
      (pss_cons (ps_set (i := 6) scLKnown.nd rfl (Or.inl rfl) (pe_methP (pv 0) T.cl G.Mcount G.count (hr.mono (by decide)) (pa_cons (pv 1) pa_nil)))
      (pss_cons (ps_set (i := 7) scLKnown.nd rfl (Or.inl rfl) (pe_methP (pv 0) T.cl G.Mlast G.last (hr.mono (by decide)) (pa_cons (pv 1) pa_nil)))
      (pss_cons (ps_if (PW.pt (pw_or (pt_not (pt_val (pe_isi B.isi B.bool (pv 5) PyProof.Rows.boot_bool))) (pw_or (pt_cmpR op_ne (pv 5) (pe_cmpR op_in_seq (pv 1) (pv 2) rfl) (nomark _)) (pw_or (pt_not (pt_val (pe_callP Gw (hr.mono (by decide)) hgw (pa_cons (pv 6) pa_nil)))) (pw_or1 (pt_cmpR op_ne (pv 6) (pe_dget hu (pv 3) (pv 1) (fun _ _ => rfl)) (nomark _))))))) (pss_one (ps_ret pe_bl)) pss_nil)
      (pss_cons (ps_if (pt_cmpR op_eq (pv 6) pe_int (nomark _)) (pss_one (ps_ret (pe_cmpR op_isN (pv 7) pe_non (nomark _)))) pss_nil)
      (pss_one (ps_ret (pe_and (pe_callP Gw (hr.mono (by decide)) hgw (pa_cons (pv 7) pa_nil)) (pe_one (pe_cmpR op_eq (pv 7) (pe_dget hu (pv 4) (pv 1) (fun _ _ => rfl)) (nomark _)))))))))), ?_⟩
    refine ⟨_, rfl, κ.p, dx, _, rfl, g1, B0.fno O (by decide +kernel) (by decide +kernel), _, rfl, κ, S, t, n, hκ, rfl, gn, B0, fun H1 S1 => ?_⟩
    have B1 := B0.same O S1
    refine ⟨_, rfl, κ.p, dx, _, rfl, S1 _ _ g1, B0.fno O (by decide +kernel) (by decide +kernel), _, rfl, κ, S, t, n, hκ, rfl, gn, B1, fun H2 S2 => ?_⟩
    have S12 := S1.trans S2
    have B2 := B0.same O S12
    refine ⟨_, rfl, κ.p, dx, _, rfl, S12 _ _ g1, B0.fno O (by decide +kernel) (by decide +kernel), _, rfl, κ, S, t, n, hκ, rfl, gn, B2, fun H3 S3 => ?_⟩
    have S13 := S12.trans S3
    have hc := (hdc.same S13).get (List.mem_singleton.mpr rfl)
    have hl := (hdl.same S13).get (List.mem_singleton.mpr rfl)
    rw [ef] at hc
    refine ⟨_, rfl, _, "bool", _, _, rfl, .bl _, kit_bb K, _, rfl, ?_⟩
    refine iteF ?_
    refine ⟨_, rfl, _, rfl, _, rfl, st, _, rfl, .inl (SqL.of (S13 _ _ hst)), rfl, strs_flat _, rfl, _, rfl, ?_⟩
    rw [if_neg Bool.false_ne_true, inV_strs, decide_eq_true rfl]
    refine iteF ?_
    refine ⟨_, rfl, _, rfl, true, rfl, ?_⟩
    refine iteF ?_
    refine ⟨_, rfl, _, rfl, _, rfl, dc, _, rfl, hc, rfl, _, rfl, ?_⟩
    rw [decide_eq_true rfl]
    refine iteF ?_
    refine ⟨_, rfl, rfl, _, rfl, ?_⟩
    by_cases c : cntE S n = 0
    · rw [decide_eq_true (show V.int (cntE S n) = V.int 0 by rw [c])]
      refine iteT ?_
      refine ⟨_, rfl, rfl, ?_⟩
      rw [h0 c]
      exact k H3 S13
    · rw [decide_eq_false (show ¬ V.int (cntE S n) = V.int 0 from fun z => c (V.int.inj z))]
      refine iteF ?_
      rw [h1 c]
      refine ⟨_, rfl, _, rfl, true, rfl, ?_⟩
      refine iteT ?_
      refine ⟨_, rfl, _, rfl, _, rfl, dl, _, rfl, hl, rfl, ?_⟩
      rw [decide_eq_true (show optV (some (l n)) = V.int (l n) from rfl)]
      exact k H3 S13
/-! ### _law_seen -/
def spSeen (C : Addr) : Sp := fun vs H Q _ => ∃ (κ : Kd ShS) (S : BS) (t : ShS) (n : Str) (st dc dl : Addr) (f l : Str → Int), (shelves C).is κ ∧ vs = [.ref κ.p, .str n, .ref st, .ref dc, .ref dl, .int S.time, .int S.deeds] ∧ GoodName n ∧ BookAt κ S t H ∧ Sortable S t.stand ∧ H st = some (.lst (t.stand.map V.str)) ∧ DictF H dc (n :: t.stand) f ∧ DictF H dl (n :: t.stand) l ∧
  f n = cntE S n ∧ (cntE S n = 0 → lstE S n = none) ∧ (cntE S n ≠ 0 → lstE S n = some (l n)) ∧ (∀ m ∈ t.stand, keyOf S m = [f m, l m]) ∧ ∀ H', Same H H' → Q (.bl true) H'
theorem scSeen : FnScope ["_law_shelf", "_law_name", "_law_standing", "_law_counts", "_law_lasts", "_law_time", "_law_number", "_law_found"] ["_law_shelf", "_law_name", "_law_standing", "_law_counts", "_law_lasts", "_law_time", "_law_number"] (defScope sSeen) := ⟨rfl, rfl, rfl, by decide +kernel, rfl, by decide +kernel, by decide +kernel⟩
theorem listed_of {S : BS} {xs ys : List Str} {f l : Str → Int} (so : Sortable S xs) (wk : Weak S xs ys) (hk : ∀ m ∈ xs, keyOf S m = [f m, l m]) : (xs.map fun n => [f n, l n]).Pairwise (· ≠ ·) ∧ ys.Pairwise (fun a b => HT.lexLt [f a, l a] [f b, l b] = true) := by
  constructor
  · have := so.keys
    rw [show xs.map (fun n => [f n, l n]) = xs.map (keyOf S) from List.map_congr_left fun m hm => (hk m hm).symm]
    exact this
  · refine List.Pairwise.imp_of_mem ?_ wk.2
    intro a b ha hb z
    rw [hk a (wk.1.mem_iff.mp ha), hk b (wk.1.mem_iff.mp hb)] at z
    exact z
set_option maxHeartbeats 4000000 in
theorem ok_seen {f0 gl gk : Addr} (F : FunB K "_law_seen" "_law_seen" sSeen f0 ["_law_shelf", "_law_name", "_law_standing", "_law_counts", "_law_lasts", "_law_time", "_law_number"]) (T : STxt K C) (G : LkG P w K mg base C) (Gl : FnP P w K mg base 1 gl ["_law_found", "_law_standing", "_law_counts", "_law_lasts"] spListed) (hgl : mg "_law_listed" = some (.ref gl))
    (Gk : FnP P w K mg base 6 gk ["_law_shelf", "_law_name", "_law_standing", "_law_counts", "_law_lasts"] (spLKnown C)) (hgk : mg "_law_known" = some (.ref gk)) : FnP P w K mg base 10 f0 ["_law_shelf", "_law_name", "_law_standing", "_law_counts", "_law_lasts", "_law_time", "_law_number"] (spSeen C) := by
  refine F.ok scSeen (fun vs H Q E h => ?_) (fun cdv A outer s H vs Q E hr h => ?_)
  · obtain ⟨κ, S, t, n, st, dc, dl, f, l, _, rfl, _⟩ := h
    rfl
  · obtain ⟨κ, S, t, n, st, dc, dl, f, l, hκ, rfl, gn, B0, so, hst, hdc, hdl, ef, h0, h1, hk, kk⟩ := h
    have hC := (shelves C).cls κ hκ
    have O := (shelves C).ok κ hκ
    obtain ⟨dx, g1⟩ := id B0.ob
    rw [hC] at g1
    refine ⟨_, pss_cons (ps_set (i := 7) scSeen.nd rfl (Or.inl rfl) (pe_methP0 (pv 0) T.cl G.Mnames G.names (hr.mono (by decide))))
      (pss_cons (ps_if (PW.pt (pw_or (pt_not (pt_val (pe_callP Gl (hr.mono (by decide)) hgl (pa_cons (pv 7) (pa_cons (pv 2) (pa_cons (pv 3) (pa_cons (pv 4) pa_nil))))))) (pw_or1 (pt_not (pt_val (pe_callP Gk (hr.mono (by decide)) hgk (pa_cons (pv 0) (pa_cons (pv 1) (pa_cons (pv 2) (pa_cons (pv 3) (pa_cons (pv 4) pa_nil)))))))))))  (pss_one (ps_ret pe_bl)) pss_nil)
      (pss_cons (ps_expr (pe_bm PySem.F.plainAttrs_list PySem.F.slot_list_append PySem.F.type_list_append mt_append (pv 7) (pa_cons (pv 1) pa_nil)))
      (pss_one (ps_ret (pe_and (pe_cmpR op_eq (pe_methP0 (pv 0) T.cl G.Mtime G.time (hr.mono (by decide))) (pv 5) (nomark _)) (pe_one (pe_cmpR op_eq (pe_methP0 (pv 0) T.cl G.Mdeeds G.deeds (hr.mono (by decide))) (pv 6) (nomark _)))))))), ?_⟩
    refine ⟨_, rfl, κ.p, dx, _, rfl, g1, B0.fno O (by decide +kernel) (by decide +kernel), κ, S, t, hκ, rfl, B0, so, fun p H1 ys hp S1 hp1 wk => ?_⟩
    obtain ⟨ld, lp⟩ := listed_of so wk hk
    refine ⟨_, rfl, _, rfl, _, rfl, _, rfl, p, st, dc, dl, t.stand, ys, f, l, rfl, hp1, S1 _ _ hst, so.few, (hdc.same S1).sub fun m hm => List.mem_cons_of_mem _ hm, (hdl.same S1).sub fun m hm => List.mem_cons_of_mem _ hm, ld, wk.1, lp, fun H2 S2 => ⟨true, rfl, ?_⟩⟩
    refine iteF ?_
    have S12 := S1.trans S2
    refine ⟨_, rfl, _, rfl, _, rfl, _, rfl, _, rfl, κ, S, t, n, st, dc, dl, f, l, hκ, rfl, gn, B0.same O S12, S12 _ _ hst, (hdc.same S12).sub fun m hm => by rw [List.mem_singleton.mp hm]; exact List.mem_cons_self, (hdl.same S12).sub fun m hm => by rw [List.mem_singleton.mp hm]; exact List.mem_cons_self, ef, h0, h1, fun H3 S3 => ⟨true, rfl, ?_⟩⟩
    refine iteF ?_
    have S13 := S12.trans S3
    have hp3 := S3 _ _ (S2 _ _ hp1)
    have leny : ys.length < 64 := by rw [wk.1.length_eq]; exact so.few
    refine ⟨_, rfl, .inl ⟨rfl, _, SqL.of hp3⟩, _, rfl, p, _, _, rfl, rfl, hp3, Nat.lt_of_le_of_lt (show (ys.map V.str).length ≤ 64 by rw [List.length_map]; omega) (by decide), ?_⟩
    have S4 : Same H (upd H3 p (.lst (ys.map V.str ++ [.str n]))) := sameFresh S13 hp
    generalize upd H3 p (.lst (ys.map V.str ++ [.str n])) = H4 at S4 ⊢
    have B4 := B0.same O S4
    refine ⟨_, rfl, κ.p, dx, _, rfl, S4 _ _ g1, B0.fno O (by decide +kernel) (by decide +kernel), κ, S, t, hκ, rfl, B4, _, rfl, rfl, _, rfl, ?_⟩
    rw [decide_eq_true rfl]
    refine iteT ?_
    refine ⟨_, rfl, κ.p, dx, _, rfl, S4 _ _ g1, B0.fno O (by decide +kernel) (by decide +kernel), κ, S, t, hκ, rfl, B4, _, rfl, rfl, ?_⟩
    rw [decide_eq_true rfl]
    exact kk H4 S4
end
end Lk

namespace Lk
open PySem L2
/-! ### a deed at a shelf, by the plain rule over counts and last askings -/
theorem times_zero (S : BS) : timesOf S 0 = 0 := by unfold timesOf; rw [Int.add_zero, Int.sub_self]
theorem passS_zero (S : BS) : passS S 0 = S := by
  unfold passS
  rw [times_zero, if_neg (Int.lt_irrefl _), Int.add_zero]
theorem stays_zero (S : BS) (m : Str) : staysB S 0 m = true := by unfold staysB; rw [times_zero, if_neg (Int.lt_irrefl _)]
theorem Passed.zero (S : BS) (t : ShS) : Passed S 0 t t := by
  refine ⟨?_, rfl, fun _ => rfl, fun _ _ => ⟨[], (List.append_nil _).symm, .nil, ?_, by simp⟩⟩
  · rw [List.filter_eq_self.mpr]
    exact fun a _ => stays_zero S a
  · rw [List.filter_eq_nil_iff.mpr (fun a _ => by rw [stays_zero]; decide)]
    exact List.Perm.refl _
theorem findE_of_mem : ∀ {es : List (Str × Int × Int)} {x : Str × Int × Int}, (namesOf es).Nodup → x ∈ es → findE es x.1 = some x
  | [], _, _, h => by simp at h
  | y :: r, x, nd, h => by
    have nd' : (y.1 :: namesOf r).Nodup := nd
    rw [List.nodup_cons] at nd'
    rw [findE_cons]
    rcases List.mem_cons.mp h with e | e
    · rw [e, if_pos rfl]
    · rw [if_neg (fun z => nd'.1 (by rw [z]; exact List.mem_map.mpr ⟨x, e, rfl⟩)), findE_of_mem nd'.2 e]
/-- an entry behind a passing of time has the last asking it had -/
theorem pass_last {S : BS} {k : Int} {n : Str} {e : Str × Int × Int} (nd : (namesOf S.ents).Nodup) (h : findE (passS S k).ents n = some e) : ∃ e0, findE S.ents n = some e0 ∧ e.2.2 = e0.2.2 := by
  unfold passS at h
  dsimp only at h
  by_cases hp : 0 < timesOf S k
  · rw [if_pos hp, findE_age nd] at h
    cases q : findE S.ents n with
    | none => rw [q] at h; cases h
    | some e0 =>
      rw [q] at h
      refine ⟨e0, rfl, ?_⟩
      have h : (if 0 < agedI e0.2.1 S.part (timesOf S k) then some (oldE S.part (timesOf S k) e0) else none) = some e := h
      by_cases c : 0 < agedI e0.2.1 S.part (timesOf S k)
      · rw [if_pos c] at h
        rw [← Option.some.inj h]
        rfl
      · rw [if_neg c] at h; cases h
  · rw [if_neg hp] at h
    exact ⟨e, h, rfl⟩
/-- those that do not stay have no entry any more -/
theorem pass_gone {S : BS} {k : Int} {n : Str} (nd : (namesOf S.ents).Nodup) (h : staysB S k n = false) : findE (passS S k).ents n = none := by
  unfold staysB at h
  by_cases hp : 0 < timesOf S k
  · rw [if_pos hp, decide_eq_false_iff_not, Classical.not_not] at h
    obtain ⟨e, he, en⟩ := List.mem_map.mp h
    obtain ⟨h1, h2⟩ := List.mem_filter.mp he
    unfold passS
    dsimp only
    rw [if_pos hp, findE_age nd, ← en, findE_of_mem nd h1]
    show (if 0 < agedI e.2.1 S.part (timesOf S k) then _ else none) = none
    rw [if_neg]
    intro c
    unfold stayE at h2
    rw [decide_eq_true c] at h2
    cases h2
  · rw [if_neg hp] at h; cases h
theorem askT_mem {S : BS} {n : Str} {t t' : ShS} (h : AskT S n t t') : t'.places = t.places ∧ ∀ m ∈ t'.stand, m = n ∨ m ∈ t.stand := by
  unfold AskT at h
  by_cases hn : n ∈ t.stand
  · rw [if_pos hn] at h; rw [h]; exact ⟨rfl, fun m hm => .inr hm⟩
  · rw [if_neg hn] at h
    unfold TakeIn at h
    by_cases hf : (t.stand.length : Int) = t.places
    · rw [if_pos hf] at h
      obtain ⟨x, hx, _, rfl⟩ := h
      refine ⟨rfl, fun m hm => ?_⟩
      rcases List.mem_append.mp hm with z | z
      · exact .inr (List.mem_filter.mp z).1
      · exact .inl (List.mem_singleton.mp z)
    · rw [if_neg hf] at h
      rw [h]
      refine ⟨rfl, fun m hm => ?_⟩
      rcases List.mem_append.mp hm with z | z
      · exact .inr z
      · exact .inl (List.mem_singleton.mp z)
theorem deedT_sin {S : BS} {d : Dd} {t u : ShS} {v : V} (nd : (namesOf S.ents).Nodup) (sin : StandIn S t) (h : DeedT S d t u v) : StandIn (stepB S d) u ∧ u.places = t.places := by
  cases d with
  | ask n w =>
    obtain ⟨t1, p, a, _⟩ := h
    have s1 : StandIn (passS (deedS S) 1) t1 := StandIn.passed (S := deedS S) sin nd p
    obtain ⟨e, m⟩ := askT_mem a
    exact ⟨StandIn.grow fun x hx => (m x hx).imp id (s1 x), by rw [e, p.pl]⟩
  | rest z =>
    obtain ⟨p, _⟩ := h
    exact ⟨StandIn.passed (S := deedS S) sin nd p, p.pl⟩
  | drop n =>
    obtain ⟨p, _⟩ := h
    obtain ⟨e, pl, _⟩ := dropT_stand p
    exact ⟨fun m hm => sin m (by rw [e] at hm; exact (List.mem_filter.mp hm).1), pl⟩
structure Inv6 (ns : List Str) (sp pt pl : Int) (k : Nat) (S : BS) (t : ShS) (f l : Str → Int) : Prop where
  now : Now ns sp pt k S
  sin : StandIn S t
  tp : t.places = pl
  mn : t.many ≤ k
  cf : ∀ n ∈ ns, f n = cntE S n
  cl : ∀ n e, findE S.ents n = some e → l n = e.2.2
theorem Inv6.start (ns : List Str) (sp pt pl : Int) : Inv6 ns sp pt pl 0 (startS sp pt) ⟨pl, [], []⟩ (fun _ => 0) (fun _ => 0) :=
  ⟨Now.start ns sp pt, fun n hn => by simp at hn, rfl, Nat.le_refl _, fun n _ => rfl, fun n e h => (nomatch h)⟩
theorem keys6 {S : BS} {f l : Str → Int} {n : Str} {e : Str × Int × Int} (h : findE S.ents n = some e) (ef : f n = cntE S n) (el : l n = e.2.2) : keyOf S n = [f n, l n] := by
  unfold keyOf
  rw [h, ef, el]
  unfold cntE
  rw [h]
  rfl
def fSt (f1 : Str → Int) : Dd → Str → Int
  | .ask n w, m => if m = n then f1 n + w else f1 m
  | .rest _, m => f1 m
  | .drop _, m => f1 m
def lSt (l : Str → Int) (k : Int) : Dd → Str → Int
  | .ask n _, m => if m = n then k else l m
  | .rest _, m => l m
  | .drop _, m => l m
/-- what a deed does, told by the goings -/
structure Told (ns : List Str) (sp pt pl : Int) (k : Nat) (S : BS) (d : Dd) (t u : ShS) (v : V) (f1 l : Str → Int) (qs : List (Int × Str)) (rs : List Going) (ys : List Str) : Prop where
  gn : u.gone = t.gone ++ (qs.map (fadeG ((k + 1 : Nat) : Int)) ++ rs)
  nd : (qs.map (·.2)).Nodup
  qz : ∀ q ∈ qs, q.2 ∈ t.stand ∧ f1 q.2 = 0 ∧ l q.2 = q.1 ∧ 0 < q.1
  pw : qs.Pairwise (fun a b => a.1 < b.1)
  lf : ∀ n ∈ t.stand, n ∉ qs.map (·.2) → f1 n ≠ 0
  rw : ∀ r ∈ rs, r.why ≠ "faded"
  an : (∀ z, d ≠ .rest z) → v = .bl (decide (d.nm ∈ t.stand.filter fun n => decide (n ∉ qs.map (·.2))))
  tm : ∀ z, d = .rest z → v = .int (timesOf S z)
  ro : RestOf ((k + 1 : Nat) : Int) pl f1 l d (t.stand.filter fun n => decide (n ∉ qs.map (·.2))) rs ys
  st : u.stand = outOf (t.stand.filter fun n => decide (n ∉ qs.map (·.2))) ys d
theorem Inv6.step {ns : List Str} {sp pt pl : Int} {k : Nat} {S : BS} {t u : ShS} {f f1 l : Str → Int} {d : Dd} {v : V} (h : Inv6 ns sp pt pl k S t f l) (s1 : 1 ≤ sp) (gd : GoodD ns d) (nt : t.stand.Nodup) (D : DeedT S d t u v) (hf : ∀ n ∈ ns, f1 n = agedI (f n) pt (timesOf S d.steps)) :
    Inv6 ns sp pt pl (k + 1) (stepB S d) u (fSt f1 d) (lSt l ((k + 1 : Nat) : Int) d) ∧ ∃ qs rs ys, Told ns sp pt pl k S d t u v f1 l qs rs ys := by
  have nd := h.now.co.nd
  have cd : Core (deedS S) k := h.now.co.of rfl
  have d0 : 0 ≤ d.steps := gd.ok.steps
  have sp1 : 1 ≤ S.span := by rw [h.now.es]; exact s1
  have ed : (deedS S).deeds = ((k + 1 : Nat) : Int) := by
    show S.deeds + 1 = _
    rw [h.now.dk]
    push_cast
    rfl
  have mm := deedT_many nt D
  have hmn := h.mn
  -- counts behind the passing
  have cf1 : ∀ n ∈ ns, f1 n = cntE (passS (deedS S) d.steps) n := fun n hn => by
    rw [hf n hn, h.cf n hn, (pass_view cd sp1 d0 n).1, ← h.now.ep]
    rfl
  have cl1 : ∀ n e, findE (passS (deedS S) d.steps).ents n = some e → l n = e.2.2 := fun n e he => by
    obtain ⟨e0, h1, h2⟩ := pass_last (S := deedS S) nd he
    rw [h2]
    exact h.cl n e0 h1
  have c1 : Core (passS (deedS S) d.steps) k := cd.pass (st := d.steps)
  have sn : ∀ n ∈ t.stand, n ∈ ns := stand_names h.sin h.now.nm
  -- the passing
  have key : ∃ t1, Passed (deedS S) d.steps t t1 ∧ ((∀ z, d ≠ .rest z) → v = .bl (decide (d.nm ∈ t1.stand))) ∧ (∀ z, d = .rest z → v = .int (timesOf S z)) ∧ (match d with
      | .ask n _ => AskT (passS (deedS S) d.steps) n t1 u
      | .rest _ => u = t1
      | .drop n => DropT S n t1 u) := by
    cases d with
    | ask n w =>
      obtain ⟨t1, p, a, e⟩ := D
      exact ⟨t1, p, fun _ => e, fun z e => (nomatch e), a⟩
    | rest z =>
      obtain ⟨p, e⟩ := D
      exact ⟨u, p, fun z' => absurd rfl (z' z), fun z' e' => by cases e'; exact e, rfl⟩
    | drop n =>
      obtain ⟨p, e⟩ := D
      exact ⟨t, Passed.zero _ t, fun _ => e, fun z e => (nomatch e), p⟩
  obtain ⟨t1, p, an, tm, after⟩ := key
  obtain ⟨qs, g1, g2, g3, g4⟩ := p.og nt nd
  rw [ed] at g1
  have ndq : (qs.map (·.2)).Nodup := g3.nodup_iff.mpr (List.filter_sublist.nodup nt)
  have mem : ∀ n, n ∈ qs.map (·.2) ↔ n ∈ t.stand ∧ staysB (deedS S) d.steps n = false := fun n => by
    rw [g3.mem_iff, List.mem_filter, Bool.not_eq_true']
  have st1 : t1.stand = t.stand.filter fun n => decide (n ∉ qs.map (·.2)) := by
    rw [p.st]
    refine List.filter_congr fun n hn => ?_
    rw [Bool.eq_iff_iff, decide_eq_true_eq, mem]
    constructor
    · intro z y
      rw [z] at y
      cases y.2
    · intro z
      cases q : staysB (deedS S) d.steps n with
      | true => rfl
      | false => exact absurd ⟨hn, q⟩ z
  have s1' : StandIn (passS (deedS S) d.steps) t1 := StandIn.passed (S := deedS S) h.sin nd p
  have n1 : t1.stand.Nodup := by rw [p.st]; exact List.filter_sublist.nodup nt
  have keys1 : ∀ n ∈ t1.stand, keyOf (passS (deedS S) d.steps) n = [f1 n, l n] := fun n hn => by
    obtain ⟨e, he⟩ := s1' n hn
    have hn' : n ∈ t.stand := by rw [p.st] at hn; exact (List.mem_filter.mp hn).1
    exact keys6 he (cf1 n (sn n hn')) (cl1 n e he)
  have last1 : ∀ n ∈ t1.stand, lastE (passS (deedS S) d.steps) n = l n := fun n hn => by
    obtain ⟨e, he⟩ := s1' n hn
    rw [cl1 n e he]
    unfold lastE lstE
    rw [he]
    rfl
  have cnt1 : ∀ n ∈ t1.stand, cntE (passS (deedS S) d.steps) n = f1 n := fun n hn => by
    have hn' : n ∈ t.stand := by rw [p.st] at hn; exact (List.mem_filter.mp hn).1
    exact (cf1 n (sn n hn')).symm
  have qz : ∀ q ∈ qs, q.2 ∈ t.stand ∧ f1 q.2 = 0 ∧ l q.2 = q.1 ∧ 0 < q.1 := fun q hq => by
    obtain ⟨h1, h2⟩ := (mem q.2).mp (List.mem_map.mpr ⟨q, hq, rfl⟩)
    obtain ⟨e, he, e1, e2⟩ := g4 q hq
    refine ⟨h1, ?_, ?_, ?_⟩
    · rw [cf1 _ (sn _ h1)]
      unfold cntE
      rw [pass_gone (S := deedS S) nd h2]
      rfl
    · rw [← e1, ← e2]
      exact h.cl e.1 e (findE_of_mem nd he)
    · rw [← e2]
      have := (h.now.co.pos e he).2.2.1
      omega
  have lf : ∀ n ∈ t.stand, n ∉ qs.map (·.2) → f1 n ≠ 0 := fun n hn hq => by
    have hs : staysB (deedS S) d.steps n = true := by
      cases q : staysB (deedS S) d.steps n with
      | true => rfl
      | false => exact absurd ((mem n).mpr ⟨hn, q⟩) hq
    obtain ⟨e, he⟩ := h.sin n hn
    obtain ⟨e', he'⟩ := findE_pass (S := deedS S) nd he hs
    rw [cf1 n (sn n hn)]
    unfold cntE
    rw [he']
    have := (c1.pos e' (findE_mem he')).1
    show e'.2.1 ≠ 0
    omega
  -- what is behind it
  have aft : ∃ rs ys, u.gone = t1.gone ++ rs ∧ (∀ r ∈ rs, r.why ≠ "faded") ∧ RestOf ((k + 1 : Nat) : Int) pl f1 l d t1.stand rs ys ∧ u.stand = outOf t1.stand ys d := by
    have tp1 : t1.places = pl := by rw [p.pl]; exact h.tp
    cases d with
    | rest z =>
      have after : u = t1 := after
      subst after
      exact ⟨[], u.stand, (List.append_nil _).symm, by simp, .inl ⟨rfl, rfl, rfl⟩, rfl⟩
    | ask n w =>
      have after : AskT (passS (deedS S) 1) n t1 u := after
      unfold AskT at after
      by_cases hn : n ∈ t1.stand
      · rw [if_pos hn] at after
        subst after
        refine ⟨[], u.stand, (List.append_nil _).symm, by simp, .inl ⟨if_neg fun z => z.1 hn, rfl, rfl⟩, ?_⟩
        show _ = if n ∈ u.stand then _ else _
        rw [if_pos hn]
      · rw [if_neg hn] at after
        unfold TakeIn at after
        by_cases hl : (t1.stand.length : Int) = t1.places
        · rw [if_pos hl] at after
          obtain ⟨m, hm, hmin, rfl⟩ := after
          have er : reasonOf pl t1.stand (.ask n w) = "crowded" := if_pos ⟨hn, by rw [hl, tp1]⟩
          refine ⟨[⟨((k + 1 : Nat) : Int), m, "crowded", f1 m, l m⟩], t1.stand.filter fun x => decide (x ≠ m), ?_, ?_, .inr ⟨m, hm, by rw [er]; decide, by rw [er], rfl, fun n e => (nomatch e), fun n' w' e x hx hne => ?_⟩, ?_⟩
          · show t1.gone ++ [⟨(passS (deedS S) 1).deeds, m, "crowded", cntE (passS (deedS S) 1) m, lastE (passS (deedS S) 1) m⟩] = _
            have e1 := cnt1 m hm
            have e2 := last1 m hm
            have e1 : cntE (passS (deedS S) 1) m = f1 m := e1
            have e2 : lastE (passS (deedS S) 1) m = l m := e2
            rw [e1, e2, show (passS (deedS S) 1).deeds = ((k + 1 : Nat) : Int) from ed]
          · intro r hr
            rw [List.mem_singleton.mp hr]
            show ("crowded" : Str) ≠ "faded"
            decide
          · have := hmin x hx
            have k1 : keyOf (passS (deedS S) 1) x = [f1 x, l x] := keys1 x hx
            have k2 : keyOf (passS (deedS S) 1) m = [f1 m, l m] := keys1 m hm
            rw [k1, k2] at this
            exact this
          · show (t1.stand.filter fun x => decide (x ≠ m)) ++ [n] = if n ∈ t1.stand then _ else _
            rw [if_neg hn]
        · rw [if_neg hl] at after
          subst after
          refine ⟨[], t1.stand, (List.append_nil _).symm, by simp, .inl ⟨if_neg fun z => hl (by rw [z.2, tp1]), rfl, rfl⟩, ?_⟩
          show t1.stand ++ [n] = if n ∈ t1.stand then _ else _
          rw [if_neg hn]
    | drop n =>
      have after : DropT S n t1 u := after
      unfold DropT at after
      by_cases hn : n ∈ t1.stand
      · rw [if_pos hn] at after
        subst after
        have e1 : cntE (passS (deedS S) 0) n = f1 n := cnt1 n hn
        have e2 : lastE (passS (deedS S) 0) n = l n := last1 n hn
        rw [passS_zero] at e1 e2
        have er : reasonOf pl t1.stand (.drop n) = "dropped" := if_pos hn
        refine ⟨[⟨((k + 1 : Nat) : Int), n, "dropped", f1 n, l n⟩], t1.stand.filter fun x => decide (x ≠ n), ?_, ?_, .inr ⟨n, hn, by rw [er]; decide, by rw [er], rfl, fun m e => by cases e; rfl, fun n' w' e => (nomatch e)⟩, rfl⟩
        · show t1.gone ++ [⟨S.deeds + 1, n, "dropped", cntE S n, lastE S n⟩] = _
          rw [show cntE S n = f1 n from e1, show lastE S n = l n from e2, show S.deeds + 1 = ((k + 1 : Nat) : Int) from ed]
        · intro r hr
          rw [List.mem_singleton.mp hr]
          show ("dropped" : Str) ≠ "faded"
          decide
      · rw [if_neg hn] at after
        subst after
        exact ⟨[], u.stand, (List.append_nil _).symm, by simp, .inl ⟨if_neg hn, rfl, rfl⟩, rfl⟩
  obtain ⟨rs, ys, a1, a2, a3, a4⟩ := aft
  rw [st1] at an a3 a4
  refine ⟨⟨h.now.step gd, ?_, ?_, by omega, ?_, ?_⟩, qs, rs, ys, by rw [a1, g1, List.append_assoc], ndq, qz, g2, lf, a2, an, tm, a3, a4⟩
  · exact (deedT_sin nd h.sin D).1
  · rw [(deedT_sin nd h.sin D).2]; exact h.tp
  · intro m hm
    have c := cf1 m hm
    cases d with
    | rest z => exact c
    | drop n =>
      have c : f1 m = cntE (passS (deedS S) 0) m := c
      rw [passS_zero] at c
      exact c
    | ask n w =>
      have cn := cf1 n gd.1
      have c : f1 m = cntE (passS (deedS S) 1) m := c
      have cn : f1 n = cntE (passS (deedS S) 1) n := cn
      show (if m = n then f1 n + w else f1 m) = ((findE (growE (passS (deedS S) 1).ents n w _) m).map (·.2.1)).getD 0
      rw [findE_grow]
      by_cases e : m = n
      · rw [if_pos e, if_pos e, cn]
        rfl
      · rw [if_neg e, if_neg e, c]
        rfl
  · intro m e he
    cases d with
    | rest z => exact cl1 m e he
    | drop n =>
      have cl1 : ∀ n e, findE (passS (deedS S) 0).ents n = some e → l n = e.2.2 := cl1
      rw [passS_zero] at cl1
      exact cl1 m e he
    | ask n w =>
      have he : findE (growE (passS (deedS S) 1).ents n w (passS (deedS S) 1).deeds) m = some e := he
      rw [findE_grow] at he
      show (if m = n then ((k + 1 : Nat) : Int) else l m) = e.2.2
      by_cases c : m = n
      · rw [if_pos c] at he
        rw [if_pos c, ← Option.some.inj he]
        exact ed.symm
      · rw [if_neg c] at he
        rw [if_neg c]
        exact cl1 m e he
end Lk

namespace Lk
open PySem L2
theorem DictF.put {H : Hp} {d : Addr} {xs : List Str} {f : Str → Int} (h : DictF H d xs f) {n : Str} (hn : n ∈ xs) (v : Int) : ∃ kvs, DPut H d (.str n) (.int v) (upd H d (.dK kvs)) ∧ DictF (upd H d (.dK kvs)) d xs (fun m => if m = n then v else f m) := by
  obtain ⟨kvs, h1, h2, h3⟩ := h.is
  refine ⟨putK kvs (Sum.inr n : Key) (.int v), DPut.k (k := (Sum.inr n : Key)) h1 (Nat.lt_of_le_of_lt h2 (by decide)), ⟨_, upd_same, ?_, fun m hm => ?_⟩⟩
  · unfold putK
    by_cases c : (kvs.any fun kv => decide (kv.1 = (Sum.inr n : Key))) = true
    · rw [if_pos c, List.length_map]; exact h2
    · exfalso
      have := h3 n hn
      apply c
      unfold valV at this
      cases q : kvs.find? fun kv => decide (kv.1 = (Sum.inr n : Key)) with
      | none => rw [q] at this; cases this
      | some x => exact List.any_eq_true.mpr ⟨x, List.mem_of_find?_eq_some q, by have := List.find?_some q; exact this⟩
  · rw [valV_put]
    by_cases c : m = n
    · rw [if_pos (by rw [c]), if_pos c]
    · rw [if_neg (fun z => c (Sum.inr.inj z)), if_neg c]
      exact h3 m hm
theorem merge_zero {n : Str} : ∀ (ns : List Str) (acc : List (Key × V)), valV (mergeK acc (ns.map fun m => ((Sum.inr m, .int 0) : Key × V))) (Sum.inr n : Key) = if n ∈ ns then some (.int 0) else valV acc (Sum.inr n : Key)
  | [], acc => by
    show valV acc _ = _
    rw [if_neg (by simp)]
  | x :: r, acc => by
    show valV (mergeK (putK acc (Sum.inr x : Key) (.int 0)) (r.map _)) _ = _
    rw [merge_zero r, valV_put]
    by_cases c : n ∈ r
    · rw [if_pos c, if_pos (List.mem_cons_of_mem _ c)]
    · rw [if_neg c]
      by_cases e : n = x
      · rw [if_pos (by rw [e]), if_pos (by rw [e]; exact List.mem_cons_self)]
      · rw [if_neg (fun z => e (Sum.inr.inj z)), if_neg]
        intro z
        rcases List.mem_cons.mp z with z | z
        · exact e z
        · exact c z
theorem BookAt.kupd {τ : Type} {κ : Kd τ} {S : BS} {t : τ} {H : Hp} {l : Addr} {xs ys : List (Key × V)} (B : BookAt κ S t H) (O : KdOk κ) (h : ¬ κ.own l) (hl : H l = some (.dK xs)) : BookAt κ S t (upd H l (.dK ys)) := by
  obtain ⟨⟨dx, h1⟩, h2, h3, h4, h5⟩ := B
  have ne : ∀ b, κ.own b → b ≠ l := fun b hb z => h (by rw [← z]; exact hb)
  exact ⟨⟨dx, by rw [upd_ne (ne _ O.op)]; exact h1⟩, by rw [upd_ne (ne _ O.oc)]; exact h2, by rw [upd_ne (ne _ O.ol)]; exact h3, O.fr t H _ h4 (fun b o e ob _ _ _ => by rw [upd_ne (ne b ob)]; exact e) (fun b zs e => by rw [upd_ne (ne_of e hl (by intro z; cases z))]; exact e), fun b hb => let ⟨o, e, n⟩ := h5 b hb; ⟨o, by rw [upd_ne (ne b hb)]; exact e, n⟩⟩
open Classical in
/-- what lies in W -/
noncomputable def cutW (W : Addr → Prop) (H : Hp) : Hp := fun b => if W b then H b else none
theorem cutW_some {W : Addr → Prop} {H : Hp} {b : Addr} {o : HO} (h : cutW W H b = some o) : W b ∧ H b = some o := by
  unfold cutW at h
  by_cases e : W b
  · rw [if_pos e] at h; exact ⟨e, h⟩
  · rw [if_neg e] at h; cases h
theorem cutW_yes {W : Addr → Prop} {H : Hp} {b : Addr} (h : W b) : cutW W H b = H b := by unfold cutW; rw [if_pos h]
theorem cutN_ints {ns : List Int} (k : Int) : ∃ cs : List Int, cutV (ns.map V.int) (some k) none = cs.map V.int ∧ cs.length ≤ ns.length := by
  refine ⟨(ns.drop (HT.sIx (ns.map V.int).length 0 (some k))).take (HT.sIx (ns.map V.int).length (ns.map V.int).length none - HT.sIx (ns.map V.int).length 0 (some k)), ?_, ?_⟩
  · unfold cutV
    rw [List.map_take, List.map_drop]
  · rw [List.length_take, List.length_drop]; omega
/-- goings told: addresses and what is there -/
theorem told_pairs {H : Hp} {ts : List Addr} {gs : List Going} (hl : ts.length = gs.length) (h : ∀ (j : Nat) (a : Addr) (g : Going), ts[j]? = some a → gs[j]? = some g → H a = some (.tup g.v)) : ∃ lz : List (Addr × Going), lz.map (·.1) = ts ∧ lz.map (·.2) = gs ∧ ∀ z ∈ lz, H z.1 = some (.tup z.2.v) := by
  refine ⟨ts.zip gs, List.map_fst_zip (by omega), List.map_snd_zip (by omega), fun z hz => ?_⟩
  obtain ⟨j, hj, rfl⟩ := List.mem_iff_getElem.mp hz
  have h1 : j < ts.length := by rw [List.length_zip] at hj; omega
  rw [List.getElem_zip]
  exact h j _ _ (List.getElem?_eq_getElem h1) (List.getElem?_eq_getElem (by omega))
theorem fade_pairs {H : Hp} {num : Int} : ∀ {lf : List (Addr × Going)} {qs : List (Int × Str)}, lf.map (·.2) = qs.map (fadeG num) → (∀ z ∈ lf, H z.1 = some (.tup z.2.v)) → ∃ zf : List (Addr × (Int × Str)), zf.map (·.1) = lf.map (·.1) ∧ zf.map (·.2) = qs ∧ ∀ z ∈ zf, H z.1 = some (.tup (fadeG num z.2).v)
  | [], [], _, _ => ⟨[], rfl, rfl, by simp⟩
  | [], _ :: _, h, _ => by simp at h
  | _ :: _, [], h, _ => by simp at h
  | x :: lf, q :: qs, h, hz => by
    rw [List.map_cons, List.map_cons] at h
    obtain ⟨h1, h2⟩ := List.cons.inj h
    obtain ⟨zf, e1, e2, e3⟩ := fade_pairs h2 fun z hz' => hz z (List.mem_cons_of_mem _ hz')
    refine ⟨(x.1, q) :: zf, by rw [List.map_cons, e1]; rfl, by rw [List.map_cons, e2], fun z hz' => ?_⟩
    rcases List.mem_cons.mp hz' with e | e
    · rw [e]
      have := hz x List.mem_cons_self
      rw [h1] at this
      exact this
    · exact e3 z e
theorem DictF.congr {H : Hp} {d : Addr} {xs : List Str} {f g : Str → Int} (h : DictF H d xs f) (e : ∀ n ∈ xs, f n = g n) : DictF H d xs g := by
  obtain ⟨kvs, h1, h2, h3⟩ := h.is
  exact ⟨kvs, h1, h2, fun n hn => by rw [h3 n hn, e n hn]⟩
theorem DictF.at {H H' : Hp} {d : Addr} {xs : List Str} {f : Str → Int} (h : DictF H d xs f) (e : ∀ o, H d = some o → H' d = some o) : DictF H' d xs f := by
  obtain ⟨kvs, h1, h2⟩ := h.is
  exact ⟨kvs, e _ h1, h2⟩
theorem DictF.zero {H : Hp} {D : Addr} {ns : List Str} {l : List (Key × V)} (hl : ns.length ≤ 30) (e : l = ns.map fun m => ((Sum.inr m, .int 0) : Key × V)) (h : H D = some (.dK (mergeK [] l))) : DictF H D ns (fun _ => 0) := by
  refine ⟨_, h, ?_, fun n hn => ?_⟩
  · have := mergeK_len l []
    rw [e, List.length_map, List.length_nil] at this
    rw [e]
    omega
  · rw [e, merge_zero, if_pos hn]
/-- the law's own things -/
structure St6 (W : Addr → Prop) (dc dl st wl : Addr) (ns : List Str) (Hc : Hp) (f l : Str → Int) (stand : List Str) (wz : List (Addr × Going)) (H : Hp) : Prop where
  hc : DictF H dc ns f
  hl : DictF H dl ns l
  ss : Same Hc H
  ws : W st
  hs : H st = some (.lst (stand.map V.str))
  ww : W wl
  hw : H wl = some (.lst (wz.map fun z => V.ref z.1))
  hz : ∀ z ∈ wz, H z.1 = some (.tup z.2.v)
theorem St6.same {W : Addr → Prop} {dc dl st wl : Addr} {ns : List Str} {Hc : Hp} {f l : Str → Int} {stand : List Str} {wz : List (Addr × Going)} {H H' : Hp} (h : St6 W dc dl st wl ns Hc f l stand wz H) (s : Same H H') : St6 W dc dl st wl ns Hc f l stand wz H' :=
  ⟨h.hc.same s, h.hl.same s, h.ss.trans s, h.ws, s _ _ h.hs, h.ww, s _ _ h.hw, fun z hz => s _ _ (h.hz z hz)⟩
/-- changes elsewhere: on what W leaves out, tuples kept -/
theorem St6.move {W : Addr → Prop} {dc dl st wl : Addr} {ns : List Str} {Hc : Hp} {f l f' l' : Str → Int} {stand : List Str} {wz : List (Addr × Going)} {H H' : Hp} (h : St6 W dc dl st wl ns Hc f l stand wz H) (nC : ∀ b o, Hc b = some o → W b) (c : DictF H' dc ns f') (c' : DictF H' dl ns l') (k : ∀ b o, W b → H b = some o → H' b = some o) (kt : ∀ b xs, H b = some (.tup xs) → H' b = some (.tup xs)) : St6 W dc dl st wl ns Hc f' l' stand wz H' :=
  ⟨c, c', fun b o e => k b o (nC b o e) (h.ss b o e), h.ws, k _ _ h.ws h.hs, h.ww, k _ _ h.ww h.hw, fun z hz => kt _ _ (h.hz z hz)⟩
structure LG (P : Program) (w : World) (K : PySem.W.Frag) (mg : Str → Option Value) (base : Heap) (C : Addr) extends LkG P w K mg base C where
  acell : Addr
  cell : FnP P w K mg base 1 acell ["_law_script", "_law_k"] (spCell K)
  hcell : mg "_law_cell_at" = some (.ref acell)
  alnames : Addr
  lnames : FnP P w K mg base 3 alnames ["_law_cell", "_law_many_here"] spLNames
  hlnames : mg "_law_names" = some (.ref alnames)
  amany : Addr
  many : FnP P w K mg base 1 amany ["_law_cell"] (spBetween 1 30)
  hmany : mg "_law_many" = some (.ref amany)
  aspan : Addr
  span : FnP P w K mg base 1 aspan ["_law_cell"] (spBetween 1 (10 ^ 20))
  hspan : mg "_law_span" = some (.ref aspan)
  apart : Addr
  part : FnP P w K mg base 1 apart ["_law_cell"] (spBetween 2 (10 ^ 30))
  hpart : mg "_law_part" = some (.ref apart)
  aplaces : Addr
  places : FnP P w K mg base 1 aplaces ["_law_cell"] (spBetween 1 40)
  hplaces : mg "_law_places" = some (.ref aplaces)
  adeed : Addr
  deed : FnP P w K mg base 1 adeed ["_law_cell", "_law_k", "_law_names_here", "_law_span_here", "_law_light"] (spDeed K)
  hdeed : mg "_law_deed" = some (.ref adeed)
  asteps : Addr
  steps : FnP P w K mg base 1 asteps ["_law_deed_here"] (spSteps K)
  hsteps : mg "_law_steps" = some (.ref asteps)
  ado_ : Addr
  do_ : FnP P w K mg base 19 ado_ ["_law_thing", "_law_deed_here"] (spDoS C)
  hdo_ : mg "_law_do" = some (.ref ado_)
  alaged : Addr
  laged : FnP P w K mg base 1 alaged ["_law_count", "_law_part_here", "_law_times"] spLAged
  hlaged : mg "_law_aged" = some (.ref alaged)
  arested : Addr
  rested : FnP P w K mg base 3 arested ["_law_deed_here", "_law_found", "_law_times"] spRested
  hrested : mg "_law_rested" = some (.ref arested)
  awalked : Addr
  walked : FnP P w K mg base 9 awalked ["_law_number", "_law_deed_here", "_law_told", "_law_found", "_law_counts", "_law_lasts", "_law_standing", "_law_places_here"] spWalked
  hwalked : mg "_law_walked" = some (.ref awalked)
  alisted : Addr
  listed : FnP P w K mg base 1 alisted ["_law_found", "_law_standing", "_law_counts", "_law_lasts"] spListed
  hlisted : mg "_law_listed" = some (.ref alisted)
  aseen : Addr
  seen : FnP P w K mg base 10 aseen ["_law_shelf", "_law_name", "_law_standing", "_law_counts", "_law_lasts", "_law_time", "_law_number"] (spSeen C)
  hseen : mg "_law_seen" = some (.ref aseen)
section
variable {P : Program} {w : World} {K : PySem.W.Frag} {mg : Str → Option Value} {base : Heap} {C : Addr}
def spLaw (K : PySem.W.Frag) : Sp := fun vs H Q _ => ∃ (a : Addr) (ns : List Int), vs = [.ref a] ∧ SqL K H a (ns.map V.int) ∧ ns.length ≤ 63 ∧ ∀ H', Q (.bl true) H'
theorem scLaw : FnScope ["_law_script", "_law_names_here", "_law_span_here", "_law_part_here", "_law_places_here", "_law_deeds", "_law_k", "_law_cell", "_law_shelf", "_law_counts", "_law_lasts", "_law_standing", "_law_walked_here", "_law_held", "_law_time", "_law_deed_here", "_law_found", "_law_times", "_law_name", "_law_log"] ["_law_script"] (defScope sLaw) := ⟨rfl, rfl, rfl, by decide +kernel, rfl, by decide +kernel, by decide +kernel⟩
set_option maxHeartbeats 16000000 in
theorem ok_law {f0 gi : Addr} {fd : FuncData} (F : Fun K "law" "law" sLaw f0 fd) (B : Blt mg) (bdict : mg "dict" = none) (T : STxt K C) (G : LG P w K mg base C) (M : Mk K C gi) (Gi0 : FnP P w K mg base 6 gi ["self", "places", "span", "part"] (spSInit C)) (hmC : mg "Shelf" = some (.ref C)) : FnOk P w K mg base CX0 22 f0 fd ["_law_script"] (spLaw K) := by
  obtain ⟨fdi, Gi, bi, _⟩ := Gi0
  refine F.ok scLaw (fun vs H Q E h => ?_) (fun cdv A outer s H vs Q E hr h => ?_)
  · obtain ⟨a, ns, rfl, _⟩ := h
    rfl
  · obtain ⟨a, scr, rfl, hS, hlen, kk⟩ := h
    have hu := hu_of hr
    have hu' : _ < cLine := Nat.lt_of_succ_lt (hu_of hr)
    refine ⟨_, (pss_cons (ps_set (i := 1) scLaw.nd rfl (Or.inl rfl) (pe_callP G.lnames (hr.mono (by decide)) G.hlnames (pa_cons (pe_callP G.cell (hr.mono (by decide)) G.hcell (pa_cons (pv 0) (pa_cons pe_int pa_nil))) (pa_cons (pe_callP G.many (hr.mono (by decide)) G.hmany (pa_cons (pe_callP G.cell (hr.mono (by decide)) G.hcell (pa_cons (pv 0) (pa_cons pe_int pa_nil))) pa_nil)) pa_nil))))
      (pss_cons (ps_set (i := 2) scLaw.nd rfl (Or.inl rfl) (pe_callP G.span (hr.mono (by decide)) G.hspan (pa_cons (pe_callP G.cell (hr.mono (by decide)) G.hcell (pa_cons (pv 0) (pa_cons pe_int pa_nil))) pa_nil)))
      (pss_cons (ps_set (i := 3) scLaw.nd rfl (Or.inl rfl) (pe_callP G.part (hr.mono (by decide)) G.hpart (pa_cons (pe_op op_fdiv (pe_callP G.cell (hr.mono (by decide)) G.hcell (pa_cons (pv 0) (pa_cons pe_int pa_nil))) pe_int) pa_nil)))
      (pss_cons (ps_set (i := 4) scLaw.nd rfl (Or.inl rfl) (pe_callP G.places (hr.mono (by decide)) G.hplaces (pa_cons (pe_callP G.cell (hr.mono (by decide)) G.hcell (pa_cons (pv 0) (pa_cons pe_int pa_nil))) pa_nil)))
      (pss_cons (ps_setlc (g := gName 0) (i := 5) (N' := ["_law_name", "_law_script"]) (cap := [none, some 0]) scLaw.nd rfl rfl rfl rfl (pi_list (pv 1)) (fun _ _ _ _ _ => pg_name (i := 0) (by decide +kernel : (["_law_name", "_law_script"] : List Str).Nodup) rfl (Or.inl rfl))
          (fun _ _ _ _ _ => pts_one (pt_cmpR op_eq (pe_op op_mod.letter (pe_op op_fdiv (pe_callP G.cell (hr.mono (by decide)) G.hcell (pa_cons (pv 1) (pa_cons pe_int pa_nil))) pe_int) pe_int) pe_int (nomark _)))
          (fun _ _ _ _ _ => pe_tup (pa_cons pe_str (pa_cons (pv 0) (pa_cons pe_int pa_nil)))) rfl)
      (pss_cons (ps_for PassesOwn.never rfl (pi_enum rfl B.enum (pa_cons (pe_slice sl_list (pv 0) (po_some pe_int) po_none) pa_nil)) (pg_tup rfl (pgs_cons (pg_name (i := 6) scLaw.nd rfl (Or.inl rfl)) (pgs_cons (pg_name (i := 7) scLaw.nd rfl (Or.inl rfl)) pgs_nil)))
          (pss_one (ps_expr (pe_bm PySem.F.plainAttrs_list PySem.F.slot_list_append PySem.F.type_list_append mt_append (pv 5) (pa_cons (pe_callP G.deed (hr.mono (by decide)) G.hdeed (pa_cons (pv 7) (pa_cons (pv 6) (pa_cons (pv 1) (pa_cons (pv 2) (pa_cons (pe_op op_mod.letter (pe_callP G.cell (hr.mono (by decide)) G.hcell (pa_cons (pv 0) (pa_cons pe_int pa_nil))) pe_int) pa_nil)))))) pa_nil)))))
      (pss_cons (ps_set (i := 8) scLaw.nd rfl (Or.inl rfl) (pe_make M Gi (hr.mono (by decide)) rfl hmC bi .nil pass0 (pa_cons (pv 4) (pa_cons (pv 2) (pa_cons (pv 3) pa_nil)))))
      (pss_cons (ps_set (i := 9) scLaw.nd rfl (Or.inl rfl) (pe_callTy (call_dictP rfl) rfl bdict PyProof.Rows.boot_dict (pa_cons (pe_lc (N' := ["_law_name"]) (cap := [none]) rfl rfl (pi_list (pv 1)) (fun _ _ _ _ _ => pg_name (i := 0) (by decide +kernel : (["_law_name"] : List Str).Nodup) rfl (Or.inl rfl)) (fun _ _ _ _ _ => pts_nil) (fun _ _ _ _ _ => pe_tup (pa_cons (pv 0) (pa_cons pe_int pa_nil)))) pa_nil)))
      (pss_cons (ps_set (i := 10) scLaw.nd rfl (Or.inl rfl) (pe_callTy (call_dictP rfl) rfl bdict PyProof.Rows.boot_dict (pa_cons (pe_lc (N' := ["_law_name"]) (cap := [none]) rfl rfl (pi_list (pv 1)) (fun _ _ _ _ _ => pg_name (i := 0) (by decide +kernel : (["_law_name"] : List Str).Nodup) rfl (Or.inl rfl)) (fun _ _ _ _ _ => pts_nil) (fun _ _ _ _ _ => pe_tup (pa_cons (pv 0) (pa_cons pe_int pa_nil)))) pa_nil)))
      (pss_cons (ps_set (i := 11) scLaw.nd rfl (Or.inl rfl) (pe_lst pa_nil))
      (pss_cons (ps_set (i := 12) scLaw.nd rfl (Or.inl rfl) (pe_lst pa_nil))
      (pss_cons (ps_set (i := 13) scLaw.nd rfl (Or.inl rfl) (pe_methP0 (pv 8) T.cl G.Mgoings G.goings (hr.mono (by decide))))
      (pss_cons (ps_set (i := 14) scLaw.nd rfl (Or.inl rfl) pe_int)
      (pss_cons (ps_for PassesOwn.never rfl (pi_enum rfl B.enum (pa_cons (pv 5) pa_nil)) (pg_tup rfl (pgs_cons (pg_name (i := 6) scLaw.nd rfl (Or.inl rfl)) (pgs_cons (pg_name (i := 15) scLaw.nd rfl (Or.inl rfl)) pgs_nil)))
        (pss_cons (ps_set (i := 16) scLaw.nd rfl (Or.inl rfl) (pe_callP G.do_ (hr.mono (by decide)) G.hdo_ (pa_cons (pv 8) (pa_cons (pv 15) pa_nil))))
        (pss_cons (ps_set (i := 17) scLaw.nd rfl (Or.inl rfl) (pe_op op_sub.letter0 (pe_op op_fdivB (pe_op op_add (pv 14) (pe_callP G.steps (hr.mono (by decide)) G.hsteps (pa_cons (pv 15) pa_nil))) (pv 2)) (pe_op op_fdivB (pv 14) (pv 2))))
        (pss_cons (ps_set (i := 14) scLaw.nd rfl (Or.inl rfl) (pe_op op_add.letter0 (pv 14) (pe_callP G.steps (hr.mono (by decide)) G.hsteps (pa_cons (pv 15) pa_nil))))
        (pss_cons (ps_for PassesOwn.never rfl (pi_list (pv 1)) (pg_name (i := 18) scLaw.nd rfl (Or.inl rfl)) (pss_one (ps_dput hu (pv 9) (pv 18) (pe_callP G.laged (hr.mono (by decide)) G.hlaged (pa_cons (pe_dget hu (pv 9) (pv 18) (fun _ _ => rfl)) (pa_cons (pv 3) (pa_cons (pv 17) pa_nil)))) rfl)))
        (pss_cons (ps_set (i := 19) scLaw.nd rfl (Or.inl rfl) (pe_methP0 (pv 8) T.cl G.Mgoings G.goings (hr.mono (by decide))))
        (pss_cons (ps_if (PW.pt (pw_or (pt_not (pt_val (pe_isi B.isi B.list (pv 19) PyProof.Rows.boot_list))) (pw_or (pt_cmpR (op_neT hu) (pe_slice sl_list (pv 19) po_none (po_some (pe_callB call_len_seq rfl B.len PySem.boot_len (pa_cons (pv 12) pa_nil)))) (pv 12) (nomark _)) (pw_or1 (pt_not (pt_val (pe_callP G.rested (hr.mono (by decide)) G.hrested (pa_cons (pv 15) (pa_cons (pv 16) (pa_cons (pv 17) pa_nil)))))))))) (pss_one (ps_ret pe_bl)) pss_nil)
        (pss_cons (ps_set (i := 11) scLaw.nd rfl (Or.inl rfl) (pe_callP G.walked (hr.mono (by decide)) G.hwalked (pa_cons (pe_op op_add (pv 6) pe_int) (pa_cons (pv 15) (pa_cons (pe_slice sl_list (pv 19) (po_some (pe_callB call_len_seq rfl B.len PySem.boot_len (pa_cons (pv 12) pa_nil))) po_none) (pa_cons (pv 16) (pa_cons (pv 9) (pa_cons (pv 10) (pa_cons (pv 11) (pa_cons (pv 4) pa_nil))))))))))
        (pss_cons (ps_if (pt_cmpR op_isN (pv 11) pe_non (nomark _)) (pss_one (ps_ret pe_bl)) pss_nil)
        (pss_cons (ps_set (i := 12) scLaw.nd rfl (Or.inl rfl) (pe_callTy call_list_of rfl B.list PyProof.Rows.boot_list (pa_cons (pv 19) pa_nil)))
        (pss_cons (ps_expr (pe_bm0 PySem.F.plainAttrs_list PySem.F.slot_list_reverse PySem.F.type_list_reverse mt_reverse (pv 19)))
        (pss_cons (ps_join (ps_if (pt_cmpR op_eq (pe_ix ix_tup (pv 15) pe_int (fun _ _ => rfl)) pe_str (nomark _)) (pss_cons (ps_dput hu (pv 9) (pe_ix ix_tup (pv 15) pe_int (fun _ _ => rfl)) (pe_op op_add (pe_dget hu (pv 9) (pe_ix ix_tup (pv 15) pe_int (fun _ _ => rfl)) (fun _ _ => rfl)) (pe_ix ix_tup (pv 15) pe_int (fun _ _ => rfl))) rfl) (pss_one (ps_dput hu (pv 10) (pe_ix ix_tup (pv 15) pe_int (fun _ _ => rfl)) (pe_op op_add (pv 6) pe_int) rfl))) pss_nil))
        (pss_cons (ps_set (i := 18) scLaw.nd rfl (Or.inl rfl) (pe_ix ix_list (pv 1) (pe_op op_mod.letter (pe_op op_add (pv 6) (pe_callP G.cell (hr.mono (by decide)) G.hcell (pa_cons (pv 0) (pa_cons pe_int pa_nil)))) (pe_callB call_len_seq rfl B.len PySem.boot_len (pa_cons (pv 1) pa_nil))) (fun _ _ => rfl)))
        (pss_one (ps_if (pt_not (pt_val (pe_callP G.seen (hr.mono (by decide)) G.hseen (pa_cons (pv 8) (pa_cons (pv 18) (pa_cons (pv 11) (pa_cons (pv 9) (pa_cons (pv 10) (pa_cons (pv 14) (pa_cons (pe_op op_add (pv 6) pe_int) pa_nil)))))))))) (pss_one (ps_ret pe_bl)) pss_nil)))))))))))))))
      (pss_one (ps_ret (pe_and (pe_cmpR (op_eqL hu') (pv 13) (pe_lst pa_nil) (nomark _)) (pe_and (pe_cmpR (op_eqLT hu) (pe_methP0 (pv 8) T.cl G.Mgoings G.goings (hr.mono (by decide))) (pv 12) (nomark _)) (pe_one (pe_callP G.listed (hr.mono (by decide)) G.hlisted (pa_cons (pe_methP0 (pv 8) T.cl G.Mnames G.names (hr.mono (by decide))) (pa_cons (pv 11) (pa_cons (pv 9) (pa_cons (pv 10) pa_nil)))))))))))))))))))))))), ?_⟩
    -- names, span, part, places
    refine ⟨_, rfl, a, scr, 0, rfl, hS, fun c0 => ⟨_, rfl, a, scr, 1, rfl, hS, fun c1 => ⟨c1, rfl, fun mz m1 m2 => ?_⟩⟩⟩
    obtain ⟨mn, rfl⟩ := Int.eq_ofNat_of_zero_le (show 0 ≤ mz by omega)
    refine ⟨c0, mn, rfl, by omega, by omega, fun nl H1 ns hnl S1 hns hnlen hgn nns => ?_⟩
    have hS1 := S1.seq hS
    refine ⟨_, rfl, a, scr, 2, rfl, hS1, fun c2 => ⟨c2, rfl, fun sp sp1 sp2 => ?_⟩⟩
    refine ⟨_, rfl, a, scr, 3, rfl, hS1, fun c3 => ⟨_, _, rfl, rfl, ⟨by decide, by decide⟩, _, rfl, fun pt pt1 pt2 => ?_⟩⟩
    refine ⟨_, rfl, a, scr, 4, rfl, hS1, fun c5 => ⟨c5, rfl, fun pl pl1 pl2 => ?_⟩⟩
    have hne : ns ≠ [] := fun z => by rw [z] at hnlen; simp at hnlen; omega
    have hnl30 : ns.length ≤ 30 := by omega
    have hn1 : 1 ≤ ns.length := by omega
    clear c0 c1 c2 c3 c5 m1 m2
    -- the deeds: all names asked first, or none
    refine ⟨_, rfl, nl, rfl, ⟨_, SqL.of hns⟩, ?_⟩
    refine lc_go ns.length (fun i ys σ' H' => ∃ dd : List (Addr × Dd), ys = dd.map (fun x => V.ref x.1) ∧ dd.length ≤ i ∧ (∀ x ∈ dd, H' x.1 = some (.tup (Dd.v x.2)) ∧ GoodD ns x.2) ∧ Same H1 H' ∧ ∃ v1, σ' = [v1, some (.ref a)])
      ⟨[], rfl, Nat.le_refl _, by simp, Same.refl _, none, rfl⟩ (Nat.le_trans hnl30 (by decide)) ?_ ?_ ?_ ?_
    · rintro i ys σ' H' hi ⟨dd, _, _, _, SS, _⟩
      exact ⟨_, .str ns[i], SqL.of (SS _ _ hns), by simp [hi]⟩
    · rintro ys σ' H' ⟨dd, _, _, _, SS, _⟩
      exact ⟨_, SqL.of (SS _ _ hns), by rw [List.length_map]; exact Nat.le_refl _⟩
    · rintro i ys σ' H3 x H4 hi hl ⟨dd, rfl, hdl, hdd, SS, v1, rfl⟩ ⟨rfl, hy⟩
      have hy' : x = .str ns[i] := by
        have := hy _ (SqL.of (SS _ _ hns))
        rw [List.getElem?_map, List.getElem?_eq_getElem hi] at this
        exact (Option.some.inj this).symm
      subst hy'
      refine ⟨_, rfl, a, scr, 0, rfl, SS.seq hS1, fun c => ⟨_, _, rfl, rfl, ⟨by decide, by decide⟩, _, _, rfl, rfl, (by show (0 : Int) < 4; decide), fun z hz => ⟨rfl, _, rfl, ?_⟩⟩⟩
      refine ite2 (fun _ => ?_) (fun _ => ?_)
      · refine ⟨_, rfl, (by show 3 ≤ sizeLine; decide), fun q hq => ?_⟩
        refine lcYes hi hl (Nat.le_trans hnl30 (by decide)) ⟨dd ++ [(q, .ask ns[i] 1)], by rw [List.map_append]; rfl, by rw [List.length_append]; exact Nat.succ_le_succ hdl, fun z hz => ?_, SS.trans (Same.upd hq), _, rfl⟩
        rcases List.mem_append.mp hz with e | e
        · exact ⟨Same.upd hq _ _ (hdd z e).1, (hdd z e).2⟩
        · rw [List.mem_singleton.mp e]
          exact ⟨upd_same, List.getElem_mem hi, by decide, by decide⟩
      · exact lcNo hi hl ⟨dd, rfl, by omega, hdd, SS, _, rfl⟩
    rintro ys σ' H3 ⟨dd0, rfl, hdl0, hdd0, S3, v1, rfl⟩ dls hdlf
    have hdlN : H1 dls = none := S3.free hdlf
    have S4 : Same H3 (upd H3 dls (.lst (dd0.map fun x => V.ref x.1))) := Same.upd hdlf
    have hdl4 : (upd H3 dls (.lst (dd0.map fun x => V.ref x.1))) dls = some (.lst (dd0.map fun x => V.ref x.1)) := upd_same
    have hdd4 : ∀ x ∈ dd0, (upd H3 dls (.lst (dd0.map fun x => V.ref x.1))) x.1 = some (.tup (Dd.v x.2)) ∧ GoodD ns x.2 := fun x hx => ⟨S4 _ _ (hdd0 x hx).1, (hdd0 x hx).2⟩
    have S14 := S3.trans S4
    generalize upd H3 dls (.lst (dd0.map fun x => V.ref x.1)) = H4 at S4 hdl4 hdd4 S14 ⊢
    clear hdd0 S3 S4 hdlf
    -- and a deed by each cell
    obtain ⟨cs, ecs, hcs⟩ := cutN_ints (ns := scr) 5
    refine ⟨_, rfl, _, rfl, a, _, rfl, S14.seq hS1, fun sl hsl => ?_⟩
    have Ssl : Same H4 (upd H4 sl (.lst (cutV (scr.map V.int) (some 5) none))) := Same.upd hsl
    have hsl' : (upd H4 sl (.lst (cutV (scr.map V.int) (some 5) none))) sl = some (.lst (cs.map V.int)) := by rw [upd_same, ecs]
    generalize upd H4 sl (.lst (cutV (scr.map V.int) (some 5) none)) = H5 at Ssl hsl' ⊢
    have nsd : sl ≠ dls := fun z => by rw [z, hdl4] at hsl; cases hsl
    have S15 := S14.trans Ssl
    refine ⟨sl, rfl, ⟨_, SqL.of hsl'⟩, ?_⟩
    refine for_go (J := Ite K sl) cs.length (fun i σ H' => ∃ (dd : List (Addr × Dd)) (z6 z7 : Option V), σ = [some (.ref a), some (.ref nl), some (.int sp), some (.int pt), some (.int pl), some (.ref dls), z6, z7, none, none, none, none, none, none, none, none, none, none, none, none] ∧
      H' dls = some (.lst (dd.map fun x => V.ref x.1)) ∧ dd.length ≤ 30 + i ∧ (∀ x ∈ dd, H' x.1 = some (.tup (Dd.v x.2)) ∧ GoodD ns x.2) ∧ Same H1 H' ∧ H' sl = some (.lst (cs.map V.int))) ?_ ?_ ?_ ?_ ?_
    · exact ⟨dd0, _, _, rfl, Ssl _ _ hdl4, by omega, fun x hx => ⟨Ssl _ _ (hdd4 x hx).1, (hdd4 x hx).2⟩, S15, hsl'⟩
    · rintro i σ H' hi ⟨dd, z6, z7, rfl, _, _, _, _, hs⟩
      exact ⟨_, .int cs[i], SqL.of hs, by simp [hi]⟩
    · rintro σ H' ⟨dd, z6, z7, rfl, _, _, _, _, hs⟩
      exact ⟨_, SqL.of hs, by rw [List.length_map]; exact Nat.le_refl _⟩
    · rintro i σ Ha x Hb hi ⟨dd, z6, z7, rfl, hdl, hdlen, hdd, SS, hs⟩ ⟨T1, y, hT, rfl, rfl, hy⟩
      have hy' : y = .int cs[i] := by
        have := hy _ (SqL.of hs)
        rw [List.getElem?_map, List.getElem?_eq_getElem hi] at this
        exact (Option.some.inj this).symm
      subst hy'
      have ST : Same Ha (upd Ha T1 (.tup [.int i, .int cs[i]])) := Same.upd hT
      have hTt : (upd Ha T1 (.tup [.int i, .int cs[i]])) T1 = some (.tup [.int i, .int cs[i]]) := upd_same
      generalize upd Ha T1 (.tup [.int i, .int cs[i]]) = Hb at ST hTt ⊢
      refine ⟨T1, _, rfl, SqT.of hTt, rfl, _, _, rfl, _, _, rfl, rfl, ?_⟩
      have SSb := SS.trans ST
      refine ⟨_, rfl, .inl ⟨rfl, _, SqL.of (ST _ _ hdl)⟩, _, rfl, _, rfl, _, rfl, _, rfl, _, rfl, a, scr, 3, rfl, SSb.seq hS1, fun c => ⟨_, _, rfl, rfl, (by show (0 : Int) < 3; decide), fun lt hlt => ?_⟩⟩
      refine ⟨cs[i], i, nl, ns, sp, lt, rfl, by omega, SqL.of (SSb _ _ hns), hne, sp1, sp2, by omega, by omega, fun q H6 d hq S6 hqd gd => ?_⟩
      have S16 := SSb.trans S6
      have hdl6 := S6 _ _ (ST _ _ hdl)
      have hs6 := S6 _ _ (ST _ _ hs)
      refine ⟨dls, _, _, rfl, rfl, hdl6, Nat.lt_of_le_of_lt (show (dd.map fun x => V.ref x.1).length ≤ 1000 by rw [List.length_map]; omega) (by decide), ?_⟩
      refine ⟨dd ++ [(q, d)], _, _, rfl, by rw [upd_same, List.map_append]; rfl, by rw [List.length_append]; show _ + 1 ≤ _; omega, fun z hz => ?_, fun b o e => ?_, ?_⟩
      · have key : ∀ {b : Addr} {xs : List V}, H6 b = some (.tup xs) → (upd H6 dls (.lst (dd.map (fun x => V.ref x.1) ++ [.ref q]))) b = some (.tup xs) := fun {b xs} e => by rw [upd_ne (ne_of e hdl6 (by intro z; cases z))]; exact e
        rcases List.mem_append.mp hz with e | e
        · exact ⟨key (S6 _ _ (ST _ _ (hdd z e).1)), (hdd z e).2⟩
        · rw [List.mem_singleton.mp e]; exact ⟨key hqd, gd⟩
      · rw [upd_ne (fun z => by rw [z, hdlN] at e; cases e)]; exact S16 _ _ e
      · rw [upd_ne nsd]; exact hs6
    rintro σ H6 ⟨dd, z6, z7, rfl, hdl6, hdlen, hdd6, S16, _⟩
    have hmlen : dd.length ≤ 93 := by omega
    have hS6 := S16.seq hS1
    have hns6 := S16 _ _ hns
    clear hsl' hsl nsd Ssl S15 S14 hdl4 hdd4 hdl0 hdlN ecs hcs S16 hS1 hns hnl S1
    -- shelf = Shelf(..)
    refine ⟨_, rfl, _, rfl, _, rfl, ?_⟩
    intro x1 dx1 nx1 ndx1 nex1
    refine ⟨x1, dx1, pl, sp, pt, rfl, upd_same, pl1, by omega, sp1, sp2, pt1, pt2, fun κ H7 i1 hp1 f1 K1 kp1 => ⟨rfl, ?_⟩⟩
    have s0 : Same H6 (upd (upd H6 dx1 (.own x1)) x1 (.ins C dx1 [])) := fun b o e => by rw [upd_ne (ne_of_none e nx1), upd_ne (ne_of_none e ndx1)]; exact e
    have S7 : Same H6 H7 := fun b o e => kp1 b o (s0 b o e) (ne_of_none e nx1)
    have g1 : ∀ b, κ.own b → H6 b = none := fun b hb => (f1 b hb).elim (fun e => by rw [e]; exact nx1) fun e => s0.free e
    subst hp1
    clear kp1 s0 f1 nx1 ndx1 nex1
    have O := (shelves C).ok κ i1
    have hC := (shelves C).cls κ i1
    have hns7 := S7 _ _ hns6
    -- counts = dict(..)
    refine ⟨_, rfl, nl, rfl, ⟨_, SqL.of hns7⟩, ?_⟩
    refine lc_go ns.length (fun i ys σ' H' => ∃ zs : List (Addr × Str), ys = zs.map (fun z => V.ref z.1) ∧ zs.map (·.2) = ns.take i ∧ (∀ z ∈ zs, H' z.1 = some (.tup [.str z.2, .int 0])) ∧ Same H7 H' ∧ ∃ v, σ' = [v]) ⟨[], rfl, rfl, by simp, Same.refl _, none, rfl⟩ (Nat.le_trans hnl30 (by decide)) ?_ ?_ ?_ ?_
    · rintro i ys σ' H' hi ⟨zs, _, _, _, SS, _⟩
      exact ⟨_, .str ns[i], SqL.of (SS _ _ hns7), by simp [hi]⟩
    · rintro ys σ' H' ⟨zs, _, _, _, SS, _⟩
      exact ⟨_, SqL.of (SS _ _ hns7), by rw [List.length_map]; exact Nat.le_refl _⟩
    · rintro i ys σ' H2 v H3 hi hl' ⟨zs, rfl, h2, h3, SS, w', rfl⟩ ⟨rfl, hy⟩
      have hv : v = .str ns[i] := by
        have := hy _ (SqL.of (SS _ _ hns7))
        rw [List.getElem?_map, List.getElem?_eq_getElem hi] at this
        exact (Option.some.inj this).symm
      subst hv
      refine ⟨_, rfl, (by show 2 ≤ sizeLine; decide), fun q hq => ?_⟩
      refine lcYes hi hl' (Nat.le_trans hnl30 (by decide)) ⟨zs ++ [(q, ns[i])], by rw [List.map_append]; rfl, by rw [List.map_append, h2, List.take_succ_eq_append_getElem hi]; rfl, fun z hz => ?_, SS.trans (Same.upd hq), _, rfl⟩
      rcases List.mem_append.mp hz with e | e
      · exact Same.upd hq _ _ (h3 z e)
      · rw [List.mem_singleton.mp e]
        exact upd_same
    rintro ys σ' H8 ⟨zs, rfl, h2, h3, S8, w', rfl⟩ p1 hp1
    rw [List.take_length] at h2
    have Sp : Same H8 (upd H8 p1 (.lst (zs.map fun z => V.ref z.1))) := Same.upd hp1
    have hp11 : (upd H8 p1 (.lst (zs.map fun z => V.ref z.1))) p1 = some (.lst (zs.map fun z => V.ref z.1)) := upd_same
    generalize upd H8 p1 (.lst (zs.map fun z => V.ref z.1)) = H9 at Sp hp11 ⊢
    have S79 := S8.trans Sp
    refine ⟨p1, zs.map fun z => (z.1, (Sum.inr z.2 : Key), V.int 0), rfl, SqL.of (by rw [hp11, List.map_map]; rfl), fun z hz => ?_, fun dc fdc => ?_⟩
    · obtain ⟨y, hy, rfl⟩ := List.mem_map.mp hz
      exact SqT.of (Sp _ _ (h3 y hy))
    have D1 : DictF (upd H9 dc (.dK (mergeK [] ((zs.map fun z => (z.1, (Sum.inr z.2 : Key), V.int 0)).map (·.2))))) dc ns (fun _ => 0) := DictF.zero hnl30 (by rw [List.map_map, ← h2, List.map_map]; rfl) upd_same
    have Sd : Same H9 (upd H9 dc (.dK (mergeK [] ((zs.map fun z => (z.1, (Sum.inr z.2 : Key), V.int 0)).map (·.2))))) := Same.upd fdc
    generalize upd H9 dc (.dK (mergeK [] ((zs.map fun z => (z.1, (Sum.inr z.2 : Key), V.int 0)).map (·.2)))) = H10 at D1 Sd ⊢
    have S710 := S79.trans Sd
    have fdc7 : H7 dc = none := S79.free fdc
    have hns10 := S710 _ _ hns7
    clear S8 Sp S79 hp11 h3 h2 zs hp1 fdc Sd
    -- lasts = dict(..)
    refine ⟨_, rfl, nl, rfl, ⟨_, SqL.of hns10⟩, ?_⟩
    refine lc_go ns.length (fun i ys σ' H' => ∃ zs : List (Addr × Str), ys = zs.map (fun z => V.ref z.1) ∧ zs.map (·.2) = ns.take i ∧ (∀ z ∈ zs, H' z.1 = some (.tup [.str z.2, .int 0])) ∧ Same H10 H' ∧ ∃ v, σ' = [v]) ⟨[], rfl, rfl, by simp, Same.refl _, none, rfl⟩ (Nat.le_trans hnl30 (by decide)) ?_ ?_ ?_ ?_
    · rintro i ys σ' H' hi ⟨zs, _, _, _, SS, _⟩
      exact ⟨_, .str ns[i], SqL.of (SS _ _ hns10), by simp [hi]⟩
    · rintro ys σ' H' ⟨zs, _, _, _, SS, _⟩
      exact ⟨_, SqL.of (SS _ _ hns10), by rw [List.length_map]; exact Nat.le_refl _⟩
    · rintro i ys σ' H2 v H3 hi hl' ⟨zs, rfl, h2, h3, SS, w', rfl⟩ ⟨rfl, hy⟩
      have hv : v = .str ns[i] := by
        have := hy _ (SqL.of (SS _ _ hns10))
        rw [List.getElem?_map, List.getElem?_eq_getElem hi] at this
        exact (Option.some.inj this).symm
      subst hv
      refine ⟨_, rfl, (by show 2 ≤ sizeLine; decide), fun q hq => ?_⟩
      refine lcYes hi hl' (Nat.le_trans hnl30 (by decide)) ⟨zs ++ [(q, ns[i])], by rw [List.map_append]; rfl, by rw [List.map_append, h2, List.take_succ_eq_append_getElem hi]; rfl, fun z hz => ?_, SS.trans (Same.upd hq), _, rfl⟩
      rcases List.mem_append.mp hz with e | e
      · exact Same.upd hq _ _ (h3 z e)
      · rw [List.mem_singleton.mp e]
        exact upd_same
    rintro ys σ' H8 ⟨zs, rfl, h2, h3, S8, w', rfl⟩ p1 hp1
    rw [List.take_length] at h2
    have Sp : Same H8 (upd H8 p1 (.lst (zs.map fun z => V.ref z.1))) := Same.upd hp1
    have hp11 : (upd H8 p1 (.lst (zs.map fun z => V.ref z.1))) p1 = some (.lst (zs.map fun z => V.ref z.1)) := upd_same
    generalize upd H8 p1 (.lst (zs.map fun z => V.ref z.1)) = H9 at Sp hp11 ⊢
    have S109 := S8.trans Sp
    refine ⟨p1, zs.map fun z => (z.1, (Sum.inr z.2 : Key), V.int 0), rfl, SqL.of (by rw [hp11, List.map_map]; rfl), fun z hz => ?_, fun dl fdl => ?_⟩
    · obtain ⟨y, hy, rfl⟩ := List.mem_map.mp hz
      exact SqT.of (Sp _ _ (h3 y hy))
    have D2 : DictF (upd H9 dl (.dK (mergeK [] ((zs.map fun z => (z.1, (Sum.inr z.2 : Key), V.int 0)).map (·.2))))) dl ns (fun _ => 0) := DictF.zero hnl30 (by rw [List.map_map, ← h2, List.map_map]; rfl) upd_same
    have Sd : Same H9 (upd H9 dl (.dK (mergeK [] ((zs.map fun z => (z.1, (Sum.inr z.2 : Key), V.int 0)).map (·.2))))) := Same.upd fdl
    generalize upd H9 dl (.dK (mergeK [] ((zs.map fun z => (z.1, (Sum.inr z.2 : Key), V.int 0)).map (·.2)))) = H11 at D2 Sd ⊢
    have S1011 := S109.trans Sd
    have fdl10 : H10 dl = none := S109.free fdl
    have ncl : dc ≠ dl := by
      obtain ⟨kv, e, _⟩ := D1.is
      exact ne_of_none e fdl10
    have D1 := D1.same S1011
    have S711 := S710.trans S1011
    have fdl7 : H7 dl = none := S710.free fdl10
    clear S8 Sp S109 hp11 h3 h2 zs hp1 fdl Sd S1011 S710 hns10 fdl10
    have ndc := K1.new fdc7
    have ndl := K1.new fdl7
    have K1 := K1.same O S711
    -- standing = [], walked = [], held = goings()
    refine ⟨by decide, fun st0 fst0 => ?_⟩
    have Sa : Same H11 (upd H11 st0 (.lst [])) := Same.upd fst0
    have hst0 : (upd H11 st0 (.lst [])) st0 = some (.lst (([] : List Str).map V.str)) := upd_same
    generalize upd H11 st0 (.lst []) = H12 at Sa hst0 ⊢
    refine ⟨by decide, fun wl0 fwl0 => ?_⟩
    have Sb : Same H12 (upd H12 wl0 (.lst [])) := Same.upd fwl0
    have hwl0 : (upd H12 wl0 (.lst [])) wl0 = some (.lst (([] : List (Addr × Going)).map fun z => V.ref z.1)) := upd_same
    generalize upd H12 wl0 (.lst []) = H13 at Sb hwl0 ⊢
    have Sab := Sa.trans Sb
    have nst := K1.new fst0
    have nwl := (K1.same O Sa).new fwl0
    have K1 := K1.same O Sab
    have get : ∀ {κ : Kd ShS} {S : BS} {t : ShS} {H : Hp}, (shelves C).is κ → BookAt κ S t H → ∃ dx, H κ.p = some (.ins C dx (fldsB S κ.dc κ.dl (κ.ex t))) := fun {κ S t H} hκ B => by
      obtain ⟨dx, h⟩ := id B.ob
      rw [(shelves C).cls κ hκ] at h
      exact ⟨dx, h⟩
    obtain ⟨dx0, g0⟩ := get i1 K1
    refine ⟨_, rfl, κ.p, dx0, _, rfl, g0, K1.fno O (by decide +kernel) (by decide +kernel), κ, _, _, i1, rfl, K1, fun hd ts0 fhd len0 _ => ?_⟩
    have ets : ts0 = [] := List.eq_nil_of_length_eq_zero len0
    subst ets
    have Sc : Same H13 (upd H13 hd (.lst (([] : List Addr).map V.ref))) := Same.upd fhd
    have hhd : (upd H13 hd (.lst (([] : List Addr).map V.ref))) hd = some (.lst []) := upd_same
    have nhd := K1.new fhd
    generalize upd H13 hd (.lst (([] : List Addr).map V.ref)) = H14 at Sc hhd ⊢
    have K1 := K1.same O Sc
    have S714 : Same H7 H14 := (S711.trans Sab).trans Sc
    have S1114 := Sab.trans Sc
    have D1 := D1.same S1114
    have D2 := D2.same S1114
    have hdc14 : ∃ o, H14 dc = some o := by obtain ⟨kvs, e, _⟩ := D1.is; exact ⟨_, e⟩
    have hdl14 : ∃ o, H14 dl = some o := by obtain ⟨kvs, e, _⟩ := D2.is; exact ⟨_, e⟩
    obtain ⟨kd1, ed1, -⟩ := id D1.is
    obtain ⟨kd2, ed2, -⟩ := id D2.is
    have hst14 := Sc _ _ (Sb _ _ hst0)
    have hwl14 := Sc _ _ hwl0
    generalize hW : (fun b => ¬ κ.own b ∧ b ≠ dc ∧ b ≠ dl) = W
    have wst : W st0 := by rw [← hW]; exact ⟨nst, ne_of hst14 ed1 (by intro z; cases z), ne_of hst14 ed2 (by intro z; cases z)⟩
    have wwl : W wl0 := by rw [← hW]; exact ⟨nwl, ne_of hwl14 ed1 (by intro z; cases z), ne_of hwl14 ed2 (by intro z; cases z)⟩
    have whd : W hd := by rw [← hW]; exact ⟨nhd, ne_of hhd ed1 (by intro z; cases z), ne_of hhd ed2 (by intro z; cases z)⟩
    have w6 : ∀ b o, H6 b = some o → W b := fun b o e => by
      rw [← hW]
      exact ⟨(fun z => by rw [g1 b z] at e; cases e), ne_of_none (S7 _ _ e) fdc7, ne_of_none (S7 _ _ e) fdl7⟩
    have S6c : Same H6 (cutW W H14) := fun b o e => by
      rw [cutW_yes (w6 b o e)]
      exact S714 _ _ (S7 _ _ e)
    have nC : ∀ b o, cutW W H14 b = some o → W b := fun b o e => (cutW_some e).1
    have Hc14 : Same (cutW W H14) H14 := fun b o e => (cutW_some e).2
    have hhdc : cutW W H14 hd = some (.lst []) := by rw [cutW_yes whd]; exact hhd
    have hSc : SqL K (cutW W H14) a (scr.map V.int) := S6c.seq hS6
    have hnsc := S6c _ _ hns6
    have hdlc := S6c _ _ hdl6
    have hddc : ∀ x ∈ dd, (cutW W H14) x.1 = some (.tup (Dd.v x.2)) ∧ GoodD ns x.2 := fun x hx => ⟨S6c _ _ (hdd6 x hx).1, (hdd6 x hx).2⟩
    generalize cutW W H14 = Hc at S6c nC Hc14 hSc hnsc hdlc hddc hhdc
    have X0 : St6 W dc dl st0 wl0 ns Hc (fun _ => 0) (fun _ => 0) [] [] H14 := ⟨D1, D2, Hc14, wst, hst14, wwl, hwl14, by simp⟩
    clear S6c w6 hst14 hwl14 wst wwl whd D1 D2 hdc14 hdl14 ed1 ed2 S714 S1114 Sc hhd nhd g0 fhd len0 Sab nst nwl Sb Sa hst0 hwl0 fst0 fwl0 S711 hns7 g1 S7 hns6 hS6 hdl6 hdd6 Hc14
    have frW : ∀ {Ha Hb : Hp}, Fr κ Ha Hb → ∀ b u, W b → Ha b = some u → Hb b = some u := fun {Ha Hb} f b u wb e => by
      rw [← hW] at wb
      exact f b u e wb.1
    have wOf : ∀ {S : BS} {t : ShS} {f l : Str → Int} {st wl : Addr} {sd : List Str} {wz : List (Addr × Going)} {H : Hp} {b : Addr}, BookAt κ S t H → St6 W dc dl st wl ns Hc f l sd wz H → H b = none → W b := fun {S t f l st wl sd wz H b} KB XB e => by
      rw [← hW]
      obtain ⟨k1, e1, _⟩ := XB.hc.is
      obtain ⟨k2, e2, _⟩ := XB.hl.is
      exact ⟨KB.new e, (ne_of_none e1 e).symm, (ne_of_none e2 e).symm⟩
    -- the deeds, one by one
    refine ⟨_, rfl, dls, rfl, ⟨_, SqL.of (X0.ss _ _ hdlc)⟩, ?_⟩
    refine for_go (J := Ite K dls) dd.length (fun i σ H' => ∃ (S : BS) (t : ShS) (f l : Str → Int) (st wl : Addr) (wz : List (Addr × Going)) (z6 z15 z16 z17 z18 z19 : Option V), σ = [some (.ref a), some (.ref nl), some (.int sp), some (.int pt), some (.int pl), some (.ref dls), z6, z7, some (.ref κ.p), some (.ref dc), some (.ref dl), some (.ref st), some (.ref wl), some (.ref hd), some (.int S.time), z15, z16, z17, z18, z19] ∧
      Inv6 ns sp pt pl i S t f l ∧ BookAt κ S t H' ∧ St6 W dc dl st wl ns Hc f l t.stand wz H' ∧ wz.map (·.2) = t.gone) ?_ ?_ ?_ ?_ ?_
    · exact ⟨startS sp pt, ⟨pl, [], []⟩, _, _, st0, wl0, [], _, none, none, none, none, none, rfl, Inv6.start ns sp pt pl, K1, X0, rfl⟩
    · rintro i σ H' hi ⟨S, t, f, l, st, wl, wz, z6, z15, z16, z17, z18, z19, rfl, _, _, X, _⟩
      exact ⟨_, .ref dd[i].1, SqL.of (X.ss _ _ hdlc), by simp [hi]⟩
    · rintro σ H' ⟨S, t, f, l, st, wl, wz, z6, z15, z16, z17, z18, z19, rfl, _, _, X, _⟩
      exact ⟨_, SqL.of (X.ss _ _ hdlc), by rw [List.length_map]; exact Nat.le_refl _⟩
    · clear K1 X0
      rintro i σ Ha x Hb hi ⟨S, t, f, l, st, wl, wz, z6, z15, z16, z17, z18, z19, rfl, inv, KA, X, hwg⟩ ⟨T1, y, hT, rfl, rfl, hy⟩
      have hy' : y = .ref dd[i].1 := by
        have := hy _ (SqL.of (X.ss _ _ hdlc))
        rw [List.getElem?_map, List.getElem?_eq_getElem hi] at this
        exact (Option.some.inj this).symm
      subst hy'
      have ST : Same Ha (upd Ha T1 (.tup [.int i, .ref dd[i].1])) := Same.upd hT
      have hTt : (upd Ha T1 (.tup [.int i, .ref dd[i].1])) T1 = some (.tup [.int i, .ref dd[i].1]) := upd_same
      have KA := KA.same O ST
      have X := X.same ST
      generalize upd Ha T1 (.tup [.int i, .ref dd[i].1]) = Hb at ST hTt KA X ⊢
      obtain ⟨hdq0, gd⟩ := hddc dd[i] (List.getElem_mem _)
      generalize dd[i].2 = d at hdq0 gd
      generalize dd[i].1 = q at hTt hdq0
      have hik : i ≤ 1000 := by omega
      have fit := inv.now.fit hik sp1 sp2 pt1 pt2 hnl30
      have fit1 := inv.now.fit1 hik sp1 sp2 pt1 pt2 hnl30
      have nt := nd_of i1 KA
      have mA := inv.mn
      refine ⟨T1, _, rfl, SqT.of hTt, rfl, _, _, rfl, _, _, rfl, rfl, ?_⟩
      clear ST hTt hT hy
      -- found = do(shelf, deed)
      refine ⟨_, rfl, _, rfl, κ, S, t, q, d, ns, i1, rfl, X.ss _ _ hdq0, KA, fit, fit1, gd, hgn, inv.sin, by rw [inv.tp]; exact pl1, by omega, fun u x HA dA KA' frA => ?_⟩
      have XA : St6 W dc dl st wl ns Hc f l t.stand wz HA := X.move nC (X.hc.at fun o e => frA _ _ e ndc) (X.hl.at fun o e => frA _ _ e ndl) (frW frA) fun b xs e => frA _ _ e (KA.noTup e)
      have hqA := XA.ss _ _ hdq0
      clear fit fit1 KA X frA
      have d0 : 0 ≤ d.steps := gd.ok.steps
      have ht0 := inv.now.t0
      -- times, time
      refine ⟨_, rfl, _, rfl, q, d, rfl, hqA, _, _, rfl, rfl, _, rfl, _, _, rfl, rfl, div_ok sp1 (by omega), _, rfl, _, rfl, _, _, rfl, rfl, div_ok sp1 (by omega), _, _, rfl, rfl, fun tm htm => ?_⟩
      have htm : tm = timesOf S d.steps := by rw [htm]; unfold timesOf; rw [inv.now.es]
      have tm0 : 0 ≤ tm := by rw [htm]; exact times_nn (by rw [inv.now.es]; exact sp1) d0
      refine ⟨_, rfl, _, rfl, q, d, rfl, hqA, _, _, rfl, rfl, fun tn htn => ?_⟩
      -- the counts aged
      refine ⟨_, rfl, nl, rfl, ⟨_, SqL.of (XA.ss _ _ hnsc)⟩, ?_⟩
      refine for_list (K := K) (a := nl) (xs := ns.map V.str) (fun j σ' H' => ∃ z18 : Option V, σ' = [some (.ref a), some (.ref nl), some (.int sp), some (.int pt), some (.int pl), some (.ref dls), some (.int i), z7, some (.ref κ.p), some (.ref dc), some (.ref dl), some (.ref st), some (.ref wl), some (.ref hd), some (.int tn), some (.ref q), some x, some (.int tm), z18, z19] ∧ BookAt κ (stepB S d) u H' ∧ St6 W dc dl st wl ns Hc (fun n => if n ∈ ns.take j then agedI (f n) pt tm else f n) l t.stand wz H') ?_ ?_ ?_ ?_
      · refine ⟨_, rfl, KA', { XA with hc := XA.hc.congr fun n _ => ?_ }⟩
        rw [if_neg (by simp)]
      · rintro j σ' H' _ ⟨z18, rfl, _, XB⟩
        exact SqL.of (XB.ss _ _ hnsc)
      · clear KA' XA hqA
        rintro j y σ' H2 hy ⟨z18, rfl, KB, XB⟩
        have hj : j < ns.length := by
          have := (List.getElem?_eq_some_iff.mp hy).1
          rw [List.length_map] at this
          exact this
        have ey : y = .str ns[j] := by
          rw [List.getElem?_map, List.getElem?_eq_getElem hj] at hy
          exact (Option.some.inj hy).symm
        subst ey
        have hm : ns[j] ∈ ns := List.getElem_mem hj
        have hnt : ns[j] ∉ ns.take j := fun z => by
          obtain ⟨m, hm', e⟩ := List.getElem_of_mem z
          rw [List.length_take] at hm'
          rw [List.getElem_take] at e
          exact List.pairwise_iff_getElem.mp nns m j (by omega) hj (by omega) e
        have hget := XB.hc.get hm
        rw [if_neg hnt] at hget
        have c0 : 0 ≤ f ns[j] := by rw [inv.cf _ hm]; exact (inv.now.co.cnn _).1
        obtain ⟨kvs, hput, hdF⟩ := XB.hc.put hm (agedI (f ns[j]) pt tm)
        obtain ⟨kv0, e0, -⟩ := XB.hc.is
        refine ⟨_, rfl, _, rfl, dc, _, rfl, hget, _, rfl, _, rfl, f ns[j], pt, tm, rfl, c0, pt1, pt2, tm0, _, rfl, _, rfl, dc, _, rfl, hput, ?_⟩
        refine ⟨_, rfl, KB.kupd O ndc e0, XB.move nC (hdF.congr fun n hn => ?_) (XB.hl.at fun o e => by rw [upd_ne ncl.symm]; exact e) (fun b o wb e => ?_) fun b xs e => ?_⟩
        · rw [List.take_succ_eq_append_getElem hj]
          by_cases c : n = ns[j]
          · rw [if_pos c, if_pos (List.mem_append.mpr (.inr (by simp [c]))), c]
          · rw [if_neg c]
            by_cases c2 : n ∈ ns.take j
            · rw [if_pos c2, if_pos (List.mem_append.mpr (.inl c2))]
            · rw [if_neg c2, if_neg]
              intro z
              rcases List.mem_append.mp z with z | z
              · exact c2 z
              · exact c (List.mem_singleton.mp z)
        · rw [← hW] at wb
          rw [upd_ne wb.2.1]; exact e
        · rw [upd_ne (ne_of e e0 (by intro z; cases z))]; exact e
      clear KA' XA hqA
      rintro σ' H2 ⟨z18, rfl, KB, XB⟩
      rw [List.length_map, List.take_length] at XB
      have hf : ∀ n ∈ ns, (if n ∈ ns then agedI (f n) pt tm else f n) = agedI (f n) pt (timesOf S d.steps) := fun n hn => by rw [if_pos hn, htm]
      generalize hf1 : (fun n => if n ∈ ns then agedI (f n) pt tm else f n) = f1 at XB
      have hf : ∀ n ∈ ns, f1 n = agedI (f n) pt (timesOf S d.steps) := fun n hn => by rw [← hf1]; exact hf n hn
      obtain ⟨inv', qs, rs, ys, T6⟩ := inv.step sp1 gd nt dA hf
      have hu_ := deedT_many nt dA
      -- log = goings()
      obtain ⟨d1, g1⟩ := get i1 KB
      refine ⟨_, rfl, κ.p, d1, _, rfl, g1, KB.fno O (by decide +kernel) (by decide +kernel), κ, _, u, i1, rfl, KB, fun lg ts flg lents atts => ?_⟩
      obtain ⟨lz, lz1, lz2, lz3⟩ := told_pairs lents atts
      subst lz1
      rw [T6.gn] at lz2
      obtain ⟨la, lb, rfl, ea, eb⟩ := List.map_eq_append_iff.mp lz2
      obtain ⟨lf, lr, rfl, ef, er⟩ := List.map_eq_append_iff.mp eb
      have S3 : Same H2 (upd H2 lg (.lst (((la ++ (lf ++ lr)).map (·.1)).map V.ref))) := Same.upd flg
      have hlg : (upd H2 lg (.lst (((la ++ (lf ++ lr)).map (·.1)).map V.ref))) lg = some (.lst (((la ++ (lf ++ lr)).map (·.1)).map V.ref)) := upd_same
      generalize upd H2 lg (.lst (((la ++ (lf ++ lr)).map (·.1)).map V.ref)) = H3 at S3 hlg ⊢
      have X3 := XB.same S3
      have lz3 : ∀ z ∈ la ++ (lf ++ lr), H3 z.1 = some (.tup z.2.v) := fun z hz => S3 _ _ (lz3 z hz)
      have ela : la.map (·.2) = wz.map (·.2) := by rw [ea, hwg]
      have lla : la.length = wz.length := by
        have := congrArg List.length ela
        rw [List.length_map, List.length_map] at this
        exact this
      -- isinstance(log, list), its beginning, rested
      refine ⟨_, rfl, _, "list", _, _, rfl, .lst hlg, kit_ll K, _, rfl, ?_⟩
      refine iteF ?_
      refine ⟨_, rfl, _, rfl, wl, _, rfl, .inl (SqL.of X3.hw), _, rfl, lg, _, rfl, SqL.of hlg, fun s1 hs1 => ?_⟩
      rw [List.length_map, cut_head wz.length (by rw [List.length_map, List.length_append]; omega), show ((la ++ (lf ++ lr)).map (·.1)).take wz.length = la.map (·.1) by rw [List.map_append, List.take_append_of_le_length (by rw [List.length_map]; omega), List.take_of_length_le (by rw [List.length_map]; omega)]]
      have S4 : Same H3 (upd H3 s1 (.lst ((la.map (·.1)).map V.ref))) := Same.upd hs1
      have hs11 : (upd H3 s1 (.lst ((la.map (·.1)).map V.ref))) s1 = some (.lst ((la.map (·.1)).map V.ref)) := upd_same
      generalize upd H3 s1 (.lst ((la.map (·.1)).map V.ref)) = H4 at S4 hs11 ⊢
      have X4 := X3.same S4
      refine ⟨_, rfl, s1, wl, la.map fun z => (z.1, z.2.v), wz.map fun z => (z.1, z.2.v), rfl, rfl, SqL.of (by rw [hs11, List.map_map, List.map_map]; rfl), SqL.of (by rw [X4.hw, List.map_map]; rfl), fun z hz => ?_, fun z hz => ?_, ?_, _, rfl, ?_⟩
      · obtain ⟨y, hy, rfl⟩ := List.mem_map.mp hz
        exact ⟨SqT.of (S4 _ _ (lz3 y (List.mem_append.mpr (.inl hy)))), rfl⟩
      · obtain ⟨y, hy, rfl⟩ := List.mem_map.mp hz
        exact SqT.of (X4.hz y hy)
      · rw [List.map_map, List.map_map]
        have := congrArg (List.map Going.v) ela
        rw [List.map_map, List.map_map] at this
        exact this
      refine iteF ?_
      have hq4 := X4.ss _ _ hdq0
      refine ⟨_, rfl, _, rfl, _, rfl, q, d, x, tm, rfl, hq4, fun z e => by rw [T6.tm z e, htm, e]; rfl, true, rfl, ?_⟩
      refine iteF ?_
      -- standing = walked(..)
      have S34 := S3.trans S4
      obtain ⟨zf, zf1, zf2, zf3⟩ := fade_pairs (H := H4) ef fun z hz => S4 _ _ (lz3 z (List.mem_append.mpr (.inr (List.mem_append.mpr (.inl hz)))))
      refine ⟨_, rfl, _, _, rfl, rfl, _, rfl, _, rfl, _, rfl, wl, _, rfl, .inl (SqL.of X4.hw), _, rfl, lg, _, rfl, SqL.of (S4 _ _ hlg), fun s2 hs2 => ?_⟩
      rw [List.length_map, cut_tail wz.length (by rw [List.length_map, List.length_append]; omega), show ((la ++ (lf ++ lr)).map (·.1)).drop wz.length = zf.map (·.1) ++ lr.map (·.1) by rw [List.map_append, List.drop_append_of_le_length (by rw [List.length_map]; omega), List.drop_of_length_le (by rw [List.length_map]; omega), List.nil_append, List.map_append, zf1]]
      have S5 : Same H4 (upd H4 s2 (.lst ((zf.map (·.1) ++ lr.map (·.1)).map V.ref))) := Same.upd hs2
      have hs22 : (upd H4 s2 (.lst ((zf.map (·.1) ++ lr.map (·.1)).map V.ref))) s2 = some (.lst ((zf.map (·.1) ++ lr.map (·.1)).map V.ref)) := upd_same
      generalize upd H4 s2 (.lst ((zf.map (·.1) ++ lr.map (·.1)).map V.ref)) = H5 at S5 hs22 ⊢
      have X5 := X4.same S5
      have sn : ∀ n ∈ t.stand, n ∈ ns := stand_names inv.sin inv.now.nm
      have ezn : (zf.map fun z => z.2.2) = qs.map (·.2) := by rw [← zf2, List.map_map]; rfl
      have lst30 : t.stand.length ≤ 30 := Nat.le_trans (PySem.length_le_of_nodup_of_subset _ _ nt sn) hnl30
      have lzf : zf.length ≤ 30 := by
        have h1 := PySem.length_le_of_nodup_of_subset _ _ T6.nd (fun n hn => by
          obtain ⟨q', hq', rfl⟩ := List.mem_map.mp hn
          exact (T6.qz q' hq').1 : ∀ n ∈ qs.map (·.2), n ∈ t.stand)
        rw [List.length_map] at h1
        have h2 := congrArg List.length zf2
        rw [List.length_map] at h2
        omega
      have llr : lr.length ≤ 1 := by
        have h2 := congrArg List.length er
        rw [List.length_map] at h2
        rcases T6.ro with ⟨_, e, _⟩ | ⟨m, _, _, e, _⟩
        · rw [e] at h2; simp at h2; simp [h2]
        · rw [e] at h2; simp at h2; omega
      refine ⟨_, rfl, _, rfl, _, rfl, _, rfl, _, rfl, ((i + 1 : Nat) : Int), pl, q, s2, dc, dl, st, d, x, zf, lr, t.stand, ys, f1, l, rfl, X5.ss _ _ hdq0, hs22, fun z hz => S5 _ _ (zf3 z hz), fun z hz => ⟨S5 _ _ (S4 _ _ (lz3 z (List.mem_append.mpr (.inr (List.mem_append.mpr (.inr hz)))))), T6.rw _ (by rw [← er]; exact List.mem_map.mpr ⟨z, hz, rfl⟩)⟩, by omega, X5.hs, nt, by omega, X5.hc.sub sn, X5.hl.sub sn, by rw [ezn]; exact T6.nd, fun z hz => T6.qz z.2 (by rw [← zf2]; exact List.mem_map.mpr ⟨z, hz, rfl⟩), ?_, fun n hn hq => T6.lf n hn (by rw [← ezn]; exact hq), fun nr => by rw [ezn]; exact T6.an nr, by rw [ezn, er]; exact T6.ro, fun p H6 hp S6 hp6 => ?_⟩
      · have := T6.pw
        rw [← zf2, List.pairwise_map] at this
        exact this
      rw [ezn, ← T6.st] at hp6
      have X6 := X5.same S6
      have S36 := (S34.trans S5).trans S6
      refine ⟨_, rfl, rfl, _, rfl, ?_⟩
      refine iteF ?_
      -- walked = list(log); log.reverse()
      have hlg6 := S6 _ _ (S5 _ _ (S4 _ _ hlg))
      refine ⟨_, rfl, lg, _, rfl, .inl (SqL.of hlg6), fun wl2 fwl2 => ?_⟩
      have S7 : Same H6 (upd H6 wl2 (.lst (((la ++ (lf ++ lr)).map (·.1)).map V.ref))) := Same.upd fwl2
      have hwl2 : (upd H6 wl2 (.lst (((la ++ (lf ++ lr)).map (·.1)).map V.ref))) wl2 = some (.lst (((la ++ (lf ++ lr)).map (·.1)).map V.ref)) := upd_same
      generalize upd H6 wl2 (.lst (((la ++ (lf ++ lr)).map (·.1)).map V.ref)) = H7 at S7 hwl2 ⊢
      have hlg7 := S7 _ _ hlg6
      have X7 := X6.same S7
      have S37 := S36.trans S7
      have wp : W p := wOf (KB.same O (S34.trans S5)) X5 hp
      have wwl2 : W wl2 := wOf (KB.same O S36) X6 fwl2
      have nplg : p ≠ lg := (ne_of_none (S5 _ _ (S4 _ _ hlg)) hp).symm
      have nwlg : wl2 ≠ lg := (ne_of_none hlg6 fwl2).symm
      refine ⟨_, rfl, .inl ⟨rfl, _, SqL.of hlg7⟩, lg, _, rfl, rfl, hlg7, ?_⟩
      have S8 : Same H2 (upd H7 lg (.lst (((la ++ (lf ++ lr)).map (·.1)).map V.ref).reverse)) := sameFresh S37 flg
      have hp8 : (upd H7 lg (.lst (((la ++ (lf ++ lr)).map (·.1)).map V.ref).reverse)) p = some (.lst (u.stand.map V.str)) := by rw [upd_ne nplg]; exact S7 _ _ hp6
      have hwl8 : (upd H7 lg (.lst (((la ++ (lf ++ lr)).map (·.1)).map V.ref).reverse)) wl2 = some (.lst ((la ++ (lf ++ lr)).map fun z => V.ref z.1)) := by rw [upd_ne nwlg, hwl2, List.map_map]; rfl
      have hz8 : ∀ z ∈ la ++ (lf ++ lr), (upd H7 lg (.lst (((la ++ (lf ++ lr)).map (·.1)).map V.ref).reverse)) z.1 = some (.tup z.2.v) := fun z hz => by
        have e := S7 _ _ (S6 _ _ (S5 _ _ (S4 _ _ (lz3 z hz))))
        rw [upd_ne (ne_of e hlg7 (by intro z; cases z))]; exact e
      generalize upd H7 lg (.lst (((la ++ (lf ++ lr)).map (·.1)).map V.ref).reverse) = H8 at S8 hp8 hwl8 hz8 ⊢
      have X8 : St6 W dc dl p wl2 ns Hc f1 l u.stand (la ++ (lf ++ lr)) H8 := ⟨XB.hc.same S8, XB.hl.same S8, XB.ss.trans S8, wp, hp8, wwl2, hwl8, hz8⟩
      have K8 := KB.same O S8
      have hwg8 : (la ++ (lf ++ lr)).map (·.2) = u.gone := by rw [lz2, T6.gn]
      clear KB XB X3 X4 X5 X6 X7 S3 S4 S5 S6 S7 S34 S36 S37 S8 hp8 hwl8 hz8 hlg hlg6 hlg7 hwl2 hp6 hs11 hs22 hs1 hs2 hp fwl2 flg lz3 atts lents zf1 zf2 zf3 ezn hq4 g1
      generalize la ++ (lf ++ lr) = wz2 at X8 hwg8 ⊢
      -- an ask: counts, lasts
      have hq8 := X8.ss _ _ hdq0
      refine ⟨fun σ' H' => σ' = [some (.ref a), some (.ref nl), some (.int sp), some (.int pt), some (.int pl), some (.ref dls), some (.int i), z7, some (.ref κ.p), some (.ref dc), some (.ref dl), some (.ref p), some (.ref wl2), some (.ref hd), some (.int tn), some (.ref q), some x, some (.int tm), z18, some (.ref lg)] ∧ BookAt κ (stepB S d) u H' ∧ St6 W dc dl p wl2 ns Hc (fSt f1 d) (lSt l ((i + 1 : Nat) : Int) d) u.stand wz2 H', ?_, ?_⟩
      · cases d with
        | rest z =>
          refine ⟨_, rfl, q, _, _, _, rfl, rfl, SqT.of hq8, rfl, rfl, _, rfl, ?_⟩
          exact iteF ⟨rfl, K8, { X8 with hc := X8.hc.congr fun n _ => rfl, hl := X8.hl.congr fun n _ => rfl }⟩
        | drop n =>
          refine ⟨_, rfl, q, _, _, _, rfl, rfl, SqT.of hq8, rfl, rfl, _, rfl, ?_⟩
          exact iteF ⟨rfl, K8, { X8 with hc := X8.hc.congr fun n _ => rfl, hl := X8.hl.congr fun n _ => rfl }⟩
        | ask n w' =>
          refine ⟨_, rfl, q, _, _, _, rfl, rfl, SqT.of hq8, rfl, rfl, _, rfl, ?_⟩
          refine iteT ?_
          obtain ⟨kv1, hput1, hF1⟩ := X8.hc.put gd.1 (f1 n + w')
          obtain ⟨kc, ec, -⟩ := X8.hc.is
          refine ⟨_, rfl, _, rfl, q, _, _, _, rfl, rfl, SqT.of hq8, rfl, dc, _, rfl, X8.hc.get gd.1, _, rfl, q, _, _, _, rfl, rfl, SqT.of hq8, rfl, _, _, rfl, rfl, _, rfl, _, rfl, q, _, _, _, rfl, rfl, SqT.of hq8, rfl, dc, _, rfl, hput1, ?_⟩
          have X9 : St6 W dc dl p wl2 ns Hc (fun m => if m = n then f1 n + w' else f1 m) l u.stand wz2 (upd H8 dc (.dK kv1)) := X8.move nC hF1 (X8.hl.at fun o e => by rw [upd_ne ncl.symm]; exact e) (fun b o wb e => by rw [← hW] at wb; rw [upd_ne wb.2.1]; exact e) fun b xs e => by rw [upd_ne (ne_of e ec (by intro z; cases z))]; exact e
          have K9 := K8.kupd (ys := kv1) O ndc ec
          generalize upd H8 dc (.dK kv1) = H9 at X9 K9 ⊢
          have hq9 := X9.ss _ _ hdq0
          obtain ⟨kv2, hput2, hF2⟩ := X9.hl.put gd.1 ((i : Int) + 1)
          obtain ⟨kl, el, -⟩ := X9.hl.is
          refine ⟨_, rfl, _, _, rfl, rfl, _, rfl, _, rfl, q, _, _, _, rfl, rfl, SqT.of hq9, rfl, dl, _, rfl, hput2, ?_⟩
          refine ⟨rfl, K9.kupd O ndl el, X9.move nC ((X9.hc.at fun o e => by rw [upd_ne ncl]; exact e).congr fun m _ => rfl) (hF2.congr fun m _ => rfl) (fun b o wb e => by rw [← hW] at wb; rw [upd_ne wb.2.2]; exact e) fun b xs e => by rw [upd_ne (ne_of e el (by intro z; cases z))]; exact e⟩
      clear X8 K8 hq8
      rintro σ' H9 ⟨rfl, K9, X9⟩
      -- name = ..
      refine ⟨_, rfl, _, rfl, _, rfl, a, scr, 1, rfl, X9.ss.seq hSc, fun c1' => ⟨_, _, rfl, rfl, _, rfl, nl, _, rfl, .inl (SqL.of (X9.ss _ _ hnsc)), _, _, rfl, rfl, ?_, fun ix' hix => ?_⟩⟩
      · show (0 : Int) < ((ns.map V.str).length : Nat)
        rw [List.length_map]; omega
      have i0 : 0 ≤ ix' ∧ ix' < ns.length := by
        rw [hix, List.length_map]
        exact ⟨Int.emod_nonneg _ (by omega), Int.emod_lt_of_pos _ (by omega)⟩
      clear hix
      obtain ⟨j, rfl⟩ := Int.eq_ofNat_of_zero_le i0.1
      have hj : j < ns.length := by omega
      have hnm : ns[j] ∈ ns := List.getElem_mem _
      refine ⟨nl, _, _, .str ns[j], rfl, rfl, SqL.of (X9.ss _ _ hnsc), atI_nat (by simp [hj]), ?_⟩
      generalize ns[j] = nm at hnm ⊢
      have gnm := hgn nm hnm
      -- seen
      have ntu := nd_of i1 K9
      have so : Sortable (stepB S d) u.stand := sortable_stand inv'.sin inv'.now.co ntu inv'.now.nm hnl30
      have snu : ∀ n ∈ u.stand, n ∈ ns := stand_names inv'.sin inv'.now.nm
      have sn2 : ∀ n ∈ nm :: u.stand, n ∈ ns := fun n hn => (List.mem_cons.mp hn).elim (fun e => by rw [e]; exact hnm) (snu n)
      have et : tn = (stepB S d).time := by
        rw [htn]
        cases d with
        | ask n w' => rfl
        | rest z => rfl
        | drop n => exact Int.add_zero _
      subst et
      refine ⟨_, rfl, _, rfl, _, rfl, _, rfl, _, rfl, _, rfl, _, rfl, _, _, rfl, rfl, κ, stepB S d, u, nm, p, dc, dl, fSt f1 d, lSt l ((i + 1 : Nat) : Int) d, i1, ?_, gnm, K9, so, X9.hs, X9.hc.sub sn2, X9.hl.sub sn2, inv'.cf nm hnm, (inv'.now.co.cnn nm).2, fun hc => ?_, fun m hm => ?_, fun H10 S10 => ⟨true, rfl, ?_⟩⟩
      · rw [inv'.now.dk]
        rfl
      · cases q : findE (stepB S d).ents nm with
        | none =>
          unfold cntE at hc
          rw [q] at hc
          exact absurd rfl hc
        | some e =>
          unfold lstE
          rw [q, inv'.cl nm e q]
          rfl
      · obtain ⟨e, he⟩ := inv'.sin m hm
        exact keys6 he (inv'.cf m (snu m hm)) (inv'.cl m e he)
      refine iteF ?_
      refine ⟨stepB S d, u, fSt f1 d, lSt l ((i + 1 : Nat) : Int) d, p, wl2, wz2, _, _, _, _, _, _, rfl, inv', K9.same O S10, X9.same S10, hwg8⟩
    -- the end
    rintro σ Ha ⟨S, t, f, l, st, wl, wz, z6, z15, z16, z17, z18, z19, rfl, inv, KA, X, hwg⟩
    clear K1 X0
    refine ⟨_, rfl, by decide, fun e0 fe0 => ?_⟩
    have Se : Same Ha (upd Ha e0 (.lst [])) := Same.upd fe0
    have he0 : (upd Ha e0 (.lst [])) e0 = some (.lst []) := upd_same
    generalize upd Ha e0 (.lst []) = H2 at Se he0 ⊢
    have KA := KA.same O Se
    have X := X.same Se
    refine ⟨hd, e0, [], [], rfl, rfl, SqL.of (X.ss _ _ hhdc), SqL.of he0, rfl, rfl, _, rfl, ?_⟩
    rw [if_neg Bool.false_ne_true, show eqVs ([] : List V) [] = true from rfl]
    refine iteT ?_
    obtain ⟨d1, g1⟩ := get i1 KA
    refine ⟨_, rfl, κ.p, d1, _, rfl, g1, KA.fno O (by decide +kernel) (by decide +kernel), κ, _, t, i1, rfl, KA, fun lg ts flg lents atts => ?_⟩
    obtain ⟨lz, lz1, lz2, lz3⟩ := told_pairs lents atts
    subst lz1
    have S3 : Same H2 (upd H2 lg (.lst ((lz.map (·.1)).map V.ref))) := Same.upd flg
    have hlg : (upd H2 lg (.lst ((lz.map (·.1)).map V.ref))) lg = some (.lst ((lz.map (·.1)).map V.ref)) := upd_same
    generalize upd H2 lg (.lst ((lz.map (·.1)).map V.ref)) = H3 at S3 hlg ⊢
    have KA := KA.same O S3
    have X := X.same S3
    refine ⟨_, rfl, lg, wl, lz.map fun z => (z.1, z.2.v), wz.map fun z => (z.1, z.2.v), rfl, rfl, SqL.of (by rw [hlg, List.map_map, List.map_map]; rfl), SqL.of (by rw [X.hw, List.map_map]; rfl), fun z hz => ?_, fun z hz => ?_, ?_, _, rfl, ?_⟩
    · obtain ⟨y, hy, rfl⟩ := List.mem_map.mp hz
      exact ⟨SqT.of (S3 _ _ (lz3 y hy)), rfl⟩
    · obtain ⟨y, hy, rfl⟩ := List.mem_map.mp hz
      exact SqT.of (X.hz y hy)
    · rw [List.map_map, List.map_map]
      have := congrArg (List.map Going.v) (lz2.trans hwg.symm)
      rw [List.map_map, List.map_map] at this
      exact this
    refine iteT ?_
    have nt := nd_of i1 KA
    have so : Sortable S t.stand := sortable_stand inv.sin inv.now.co nt inv.now.nm hnl30
    have sn : ∀ n ∈ t.stand, n ∈ ns := stand_names inv.sin inv.now.nm
    obtain ⟨d2, g2⟩ := get i1 KA
    refine ⟨_, rfl, κ.p, d2, _, rfl, g2, KA.fno O (by decide +kernel) (by decide +kernel), κ, S, t, i1, rfl, KA, so, fun p H4 ys hp S4 hp4 wk => ?_⟩
    obtain ⟨ld, lp⟩ := listed_of so wk fun m hm => by
      obtain ⟨e, he⟩ := inv.sin m hm
      exact keys6 he (inv.cf m (sn m hm)) (inv.cl m e he)
    exact ⟨_, rfl, _, rfl, _, rfl, p, st, dc, dl, t.stand, ys, f, l, rfl, hp4, S4 _ _ X.hs, so.few, (X.hc.same S4).sub sn, (X.hl.same S4).sub sn, ld, wk.1, lp, fun H' _ => kk H'⟩
end
end Lk

namespace Lk
open PySem L2
open PySem.W (nsIn findIn isFn keepIn specialIn readsIn findCls CFound takesIn plainGet hasDictIn plainOver makesIn codeIn fnOf Frag OpenLaw mg_of mg_none_of)
/-! ### what the top has written, and the law's own head -/
theorem askS_binds0 {K : Frag} {f : Addr} {fd : FuncData} {t0 : Tok} (F : FunD K "ask" "Shelf.ask" sSAsk f fd [.int 1 t0]) : Binds K fd ["self", "name", "weight"] [] :=
  F.binds fun _ _ _ _ _ _ _ us hl => match us, hl with | [_, _, _], _ => ⟨_, rfl, rfl⟩
theorem askS_binds1 {K : Frag} {f : Addr} {fd : FuncData} {t0 : Tok} (F : FunD K "ask" "Shelf.ask" sSAsk f fd [.int 1 t0]) : Binds K fd ["self", "name", "weight"] [.int 1 t0] :=
  F.binds fun _ _ _ _ _ _ _ us hl => by
    have h2 : us.length = 2 := by
      rw [List.length_append] at hl
      exact Nat.succ.inj hl
    match us, h2 with
    | [_, _], _ => exact ⟨_, rfl, rfl⟩
theorem all_mk {l : OpenLaw} {w : World} {K : Frag} {h : Heap} {mg : Str → Option Value} {fa : Addr} {fd : FuncData} {ocAS kVAS dcAS pmAS cdAS ctAS otAS : Value} {odAS anAS toAS : Option Addr} {slAS tsAS : Array (Option Value)} {dsAS : Array Value} {nAS : Nat} {t0S : Tok} {C0 fL m_binit f_whole f_name f_ckName f_ckWeight f_ckSteps f_ckPlaces f_ckRule f_ageings f_aged f_cell f_lwhole f_sign f_lnames f_many f_span f_part f_deed f_do f_places f_steps f_laged f_rested f_kinds f_isGoing f_leftFaded f_leftRest f_listed f_walked f_lknown f_seen m_rest m_strength m_beginAsk m_grow m_beginDrop m_passTime m_ageCounts m_timeNow m_deedsDone m_countOf m_lastOf m_inOrder m_sinit m_sdrop m_takeIn m_takeOff m_sfade m_snames m_shas m_sgoings CS fAS TAS : Addr} (X : K.In h) (G : h.Ns mainGlobals mg) (hfa : mg "law" = some (.ref fa))
(aB : nsIn K mainGlobals "Book" = some (some (.ref C0)))
(a_whole : nsIn K mainGlobals "is_whole_within" = some (some (.ref f_whole)))
(F_whole : FunB K "is_whole_within" "is_whole_within" sIsWhole f_whole ["value", "least", "most"])
(a_name : nsIn K mainGlobals "is_name" = some (some (.ref f_name)))
(F_name : FunB K "is_name" "is_name" sIsName f_name ["value"])
(a_ckName : nsIn K mainGlobals "check_name" = some (some (.ref f_ckName)))
(F_ckName : FunB K "check_name" "check_name" sCkName f_ckName ["name"])
(a_ckWeight : nsIn K mainGlobals "check_weight" = some (some (.ref f_ckWeight)))
(F_ckWeight : FunB K "check_weight" "check_weight" sCkWeight f_ckWeight ["weight"])
(a_ckSteps : nsIn K mainGlobals "check_steps" = some (some (.ref f_ckSteps)))
(F_ckSteps : FunB K "check_steps" "check_steps" sCkSteps f_ckSteps ["steps"])
(a_ckPlaces : nsIn K mainGlobals "check_places" = some (some (.ref f_ckPlaces)))
(F_ckPlaces : FunB K "check_places" "check_places" sCkPlaces f_ckPlaces ["places"])
(a_ckRule : nsIn K mainGlobals "check_rule" = some (some (.ref f_ckRule)))
(F_ckRule : FunB K "check_rule" "check_rule" sCkRule f_ckRule ["span", "part"])
(a_ageings : nsIn K mainGlobals "ageings" = some (some (.ref f_ageings)))
(F_ageings : FunB K "ageings" "ageings" sAgeings f_ageings ["span", "since", "upto"])
(a_aged : nsIn K mainGlobals "aged" = some (some (.ref f_aged)))
(F_aged : FunB K "aged" "aged" sAged f_aged ["count", "part", "times"])
(a_cell : nsIn K mainGlobals "_law_cell_at" = some (some (.ref f_cell)))
(F_cell : FunB K "_law_cell_at" "_law_cell_at" sCellAt f_cell ["_law_script", "_law_k"])
(a_lwhole : nsIn K mainGlobals "_law_whole" = some (some (.ref f_lwhole)))
(F_lwhole : FunB K "_law_whole" "_law_whole" sLWhole f_lwhole ["_law_found"])
(a_sign : nsIn K mainGlobals "_law_sign" = some (some (.ref f_sign)))
(F_sign : FunB K "_law_sign" "_law_sign" sSign f_sign ["_law_number"])
(a_lnames : nsIn K mainGlobals "_law_names" = some (some (.ref f_lnames)))
(F_lnames : FunB K "_law_names" "_law_names" sLNames f_lnames ["_law_cell", "_law_many_here"])
(a_many : nsIn K mainGlobals "_law_many" = some (some (.ref f_many)))
(F_many : FunB K "_law_many" "_law_many" sMany f_many ["_law_cell"])
(a_span : nsIn K mainGlobals "_law_span" = some (some (.ref f_span)))
(F_span : FunB K "_law_span" "_law_span" sSpan f_span ["_law_cell"])
(a_part : nsIn K mainGlobals "_law_part" = some (some (.ref f_part)))
(F_part : FunB K "_law_part" "_law_part" sPart f_part ["_law_cell"])
(a_deed : nsIn K mainGlobals "_law_deed" = some (some (.ref f_deed)))
(F_deed : FunB K "_law_deed" "_law_deed" sDeed f_deed ["_law_cell", "_law_k", "_law_names_here", "_law_span_here", "_law_light"])
(a_do : nsIn K mainGlobals "_law_do" = some (some (.ref f_do)))
(F_do : FunB K "_law_do" "_law_do" sDo f_do ["_law_thing", "_law_deed_here"])
(a_places : nsIn K mainGlobals "_law_places" = some (some (.ref f_places)))
(F_places : FunB K "_law_places" "_law_places" sPlaces f_places ["_law_cell"])
(a_steps : nsIn K mainGlobals "_law_steps" = some (some (.ref f_steps)))
(F_steps : FunB K "_law_steps" "_law_steps" sSteps f_steps ["_law_deed_here"])
(a_laged : nsIn K mainGlobals "_law_aged" = some (some (.ref f_laged)))
(F_laged : FunB K "_law_aged" "_law_aged" sLAged f_laged ["_law_count", "_law_part_here", "_law_times"])
(a_rested : nsIn K mainGlobals "_law_rested" = some (some (.ref f_rested)))
(F_rested : FunB K "_law_rested" "_law_rested" sRested f_rested ["_law_deed_here", "_law_found", "_law_times"])
(a_kinds : nsIn K mainGlobals "_law_kinds" = some (some (.ref f_kinds)))
(F_kinds : FunB K "_law_kinds" "_law_kinds" sKinds f_kinds ["_law_row"])
(a_isGoing : nsIn K mainGlobals "_law_is_going" = some (some (.ref f_isGoing)))
(F_isGoing : FunB K "_law_is_going" "_law_is_going" sIsGoing f_isGoing ["_law_row", "_law_number", "_law_reason", "_law_counts", "_law_lasts", "_law_standing"])
(a_leftFaded : nsIn K mainGlobals "_law_left_by_faded" = some (some (.ref f_leftFaded)))
(F_leftFaded : FunB K "_law_left_by_faded" "_law_left_by_faded" sLeftFaded f_leftFaded ["_law_number", "_law_told", "_law_counts", "_law_lasts", "_law_standing"])
(a_leftRest : nsIn K mainGlobals "_law_left_by_rest" = some (some (.ref f_leftRest)))
(F_leftRest : FunB K "_law_left_by_rest" "_law_left_by_rest" sLeftRest f_leftRest ["_law_number", "_law_deed_here", "_law_told", "_law_counts", "_law_lasts", "_law_standing", "_law_places_here"])
(a_listed : nsIn K mainGlobals "_law_listed" = some (some (.ref f_listed)))
(F_listed : FunB K "_law_listed" "_law_listed" sListed f_listed ["_law_found", "_law_standing", "_law_counts", "_law_lasts"])
(a_walked : nsIn K mainGlobals "_law_walked" = some (some (.ref f_walked)))
(F_walked : FunB K "_law_walked" "_law_walked" sWalked f_walked ["_law_number", "_law_deed_here", "_law_told", "_law_found", "_law_counts", "_law_lasts", "_law_standing", "_law_places_here"])
(a_lknown : nsIn K mainGlobals "_law_known" = some (some (.ref f_lknown)))
(F_lknown : FunB K "_law_known" "_law_known" sLKnown f_lknown ["_law_shelf", "_law_name", "_law_standing", "_law_counts", "_law_lasts"])
(a_seen : nsIn K mainGlobals "_law_seen" = some (some (.ref f_seen)))
(F_seen : FunB K "_law_seen" "_law_seen" sSeen f_seen ["_law_shelf", "_law_name", "_law_standing", "_law_counts", "_law_lasts", "_law_time", "_law_number"])
(aS : nsIn K mainGlobals "Shelf" = some (some (.ref CS)))
(aS_mrest : findIn K (.ref CS) "rest" = some (some (.ref m_rest)))
(i_mrest : isFn K (.ref m_rest) = true)
(k_mrest : keepIn K (.ref m_rest) = true)
(F_mrest : FunB K "rest" "Book.rest" sRest m_rest ["self", "steps"])
(aS_mstrength : findIn K (.ref CS) "strength" = some (some (.ref m_strength)))
(i_mstrength : isFn K (.ref m_strength) = true)
(k_mstrength : keepIn K (.ref m_strength) = true)
(F_mstrength : FunB K "strength" "Book.strength" sStrength m_strength ["self", "name"])
(aS_mbeginAsk : findIn K (.ref CS) "begin_ask" = some (some (.ref m_beginAsk)))
(i_mbeginAsk : isFn K (.ref m_beginAsk) = true)
(k_mbeginAsk : keepIn K (.ref m_beginAsk) = true)
(F_mbeginAsk : FunB K "begin_ask" "Book.begin_ask" sBeginAsk m_beginAsk ["self", "name", "weight"])
(aS_mgrow : findIn K (.ref CS) "grow" = some (some (.ref m_grow)))
(i_mgrow : isFn K (.ref m_grow) = true)
(k_mgrow : keepIn K (.ref m_grow) = true)
(F_mgrow : FunB K "grow" "Book.grow" sGrow m_grow ["self", "name", "weight"])
(aS_mbeginDrop : findIn K (.ref CS) "begin_drop" = some (some (.ref m_beginDrop)))
(i_mbeginDrop : isFn K (.ref m_beginDrop) = true)
(k_mbeginDrop : keepIn K (.ref m_beginDrop) = true)
(F_mbeginDrop : FunB K "begin_drop" "Book.begin_drop" sBeginDrop m_beginDrop ["self", "name"])
(aS_mpassTime : findIn K (.ref CS) "pass_time" = some (some (.ref m_passTime)))
(i_mpassTime : isFn K (.ref m_passTime) = true)
(k_mpassTime : keepIn K (.ref m_passTime) = true)
(F_mpassTime : FunB K "pass_time" "Book.pass_time" sPassTime m_passTime ["self", "steps"])
(aS_mageCounts : findIn K (.ref CS) "age_counts" = some (some (.ref m_ageCounts)))
(i_mageCounts : isFn K (.ref m_ageCounts) = true)
(k_mageCounts : keepIn K (.ref m_ageCounts) = true)
(F_mageCounts : FunB K "age_counts" "Book.age_counts" sAgeCounts m_ageCounts ["self", "times"])
(aS_mtimeNow : findIn K (.ref CS) "time_now" = some (some (.ref m_timeNow)))
(i_mtimeNow : isFn K (.ref m_timeNow) = true)
(k_mtimeNow : keepIn K (.ref m_timeNow) = true)
(F_mtimeNow : FunB K "time_now" "Book.time_now" sTimeNow m_timeNow ["self"])
(aS_mdeedsDone : findIn K (.ref CS) "deeds_done" = some (some (.ref m_deedsDone)))
(i_mdeedsDone : isFn K (.ref m_deedsDone) = true)
(k_mdeedsDone : keepIn K (.ref m_deedsDone) = true)
(F_mdeedsDone : FunB K "deeds_done" "Book.deeds_done" sDeedsDone m_deedsDone ["self"])
(aS_mcountOf : findIn K (.ref CS) "count_of" = some (some (.ref m_countOf)))
(i_mcountOf : isFn K (.ref m_countOf) = true)
(k_mcountOf : keepIn K (.ref m_countOf) = true)
(F_mcountOf : FunB K "count_of" "Book.count_of" sCountOf m_countOf ["self", "name"])
(aS_mlastOf : findIn K (.ref CS) "last_of" = some (some (.ref m_lastOf)))
(i_mlastOf : isFn K (.ref m_lastOf) = true)
(k_mlastOf : keepIn K (.ref m_lastOf) = true)
(F_mlastOf : FunB K "last_of" "Book.last_of" sLastOf m_lastOf ["self", "name"])
(aS_minOrder : findIn K (.ref CS) "in_order" = some (some (.ref m_inOrder)))
(i_minOrder : isFn K (.ref m_inOrder) = true)
(k_minOrder : keepIn K (.ref m_inOrder) = true)
(F_minOrder : FunB K "in_order" "Book.in_order" sInOrder m_inOrder ["self", "names"])
(aS_msinit : findIn K (.ref CS) "__init__" = some (some (.ref m_sinit)))
(i_msinit : isFn K (.ref m_sinit) = true)
(k_msinit : keepIn K (.ref m_sinit) = true)
(F_msinit : FunB K "__init__" "Shelf.__init__" sSInit m_sinit ["self", "places", "span", "part"])
(aS_msdrop : findIn K (.ref CS) "drop" = some (some (.ref m_sdrop)))
(i_msdrop : isFn K (.ref m_sdrop) = true)
(k_msdrop : keepIn K (.ref m_sdrop) = true)
(F_msdrop : FunB K "drop" "Shelf.drop" sSDrop m_sdrop ["self", "name"])
(aS_mtakeIn : findIn K (.ref CS) "take_in" = some (some (.ref m_takeIn)))
(i_mtakeIn : isFn K (.ref m_takeIn) = true)
(k_mtakeIn : keepIn K (.ref m_takeIn) = true)
(F_mtakeIn : FunB K "take_in" "Shelf.take_in" sTakeIn m_takeIn ["self", "name"])
(aS_mtakeOff : findIn K (.ref CS) "take_off" = some (some (.ref m_takeOff)))
(i_mtakeOff : isFn K (.ref m_takeOff) = true)
(k_mtakeOff : keepIn K (.ref m_takeOff) = true)
(F_mtakeOff : FunB K "take_off" "Shelf.take_off" sTakeOff m_takeOff ["self", "name", "reason", "count", "last"])
(aS_msfade : findIn K (.ref CS) "fade" = some (some (.ref m_sfade)))
(i_msfade : isFn K (.ref m_sfade) = true)
(k_msfade : keepIn K (.ref m_sfade) = true)
(F_msfade : FunB K "fade" "Shelf.fade" sSFade m_sfade ["self", "name", "last"])
(aS_msnames : findIn K (.ref CS) "names" = some (some (.ref m_snames)))
(i_msnames : isFn K (.ref m_snames) = true)
(k_msnames : keepIn K (.ref m_snames) = true)
(F_msnames : FunB K "names" "Shelf.names" sSNames m_snames ["self"])
(aS_mshas : findIn K (.ref CS) "has" = some (some (.ref m_shas)))
(i_mshas : isFn K (.ref m_shas) = true)
(k_mshas : keepIn K (.ref m_shas) = true)
(F_mshas : FunB K "has" "Shelf.has" sSHas m_shas ["self", "name"])
(aS_msgoings : findIn K (.ref CS) "goings" = some (some (.ref m_sgoings)))
(i_msgoings : isFn K (.ref m_sgoings) = true)
(k_msgoings : keepIn K (.ref m_sgoings) = true)
(F_msgoings : FunB K "goings" "Shelf.goings" sSGoings m_sgoings ["self"])
(a_askS : findIn K (.ref CS) "ask" = some (some (.ref fAS)))
(i_askS : isFn K (.ref fAS) = true)
(k_askS : keepIn K (.ref fAS) = true)
(l_askS : K.lookup fAS = some ⟨ocAS, odAS, .func (fnOf "ask" "Shelf.ask" (defArgs sSAsk) (defBody sSAsk) (defScope sSAsk) (.ref TAS) kVAS dcAS pmAS anAS cdAS ctAS), slAS⟩)
(c_askS : codeIn K cdAS "Shelf.ask" = true)
(lt_askS : K.lookup TAS = some ⟨otAS, toAS, .seq dsAS nAS, tsAS⟩)
(d_askS : dsAS = [Value.int 1 t0S].toArray)
(pgS : plainGet K CS Str.empty = true)
(hdS : hasDictIn K CS = true)
(poS : plainOver K CS = true)
(saS : findIn K (.ref CS) "__setattr__" = some (some (.builtin "object.__setattr__")))
(mkS : makesIn K CS = true)
(kcS : keepIn K (.ref CS) = true)
(n1S : findIn K (.ref CS) "span" = some none)
(n2S : findIn K (.ref CS) "part" = some none)
(n3S : findIn K (.ref CS) "time" = some none)
(n4S : findIn K (.ref CS) "deeds" = some none)
(n5S : findIn K (.ref CS) "counts" = some none)
(n6S : findIn K (.ref CS) "lasts" = some none)
(n7S : findIn K (.ref CS) "places" = some none)
(n8S : findIn K (.ref CS) "standing" = some none)
(n9S : findIn K (.ref CS) "gone" = some none)
(s_cm : specialIn K (.ref C0) "__getattribute__" = some (some (.builtin "type.__getattribute__")))
(r_cm : readsIn K C0 (.type "type") = true)
(f_cm : findCls K (.ref C0) (.type "type") "__init__" = some (CFound.val (.ref m_binit)))
(F_binit : FunB K "__init__" "Book.__init__" sInit m_binit ["self", "span", "part"])
(g_st : specialIn K (.ref m_strength) "__get__" = some (some (.builtin "function.__get__")))
(t_st : takesIn K (.ref m_strength) = some false)
(a_law : nsIn K mainGlobals "law" = some (some (.ref fL)))
(F_law : Fun K "law" "law" sLaw fL fd)
(b_law : ∀ (s : Shared) (v : Value), BindsTo s fd ⟨[v], []⟩ [("_law_script", v)])
(z_isi : nsIn K mainGlobals "isinstance" = some none)
(z_len : nsIn K mainGlobals "len" = some none)
(z_all_ : nsIn K mainGlobals "all" = some none)
(z_min_ : nsIn K mainGlobals "min" = some none)
(z_range : nsIn K mainGlobals "range" = some none)
(z_list : nsIn K mainGlobals "list" = some none)
(z_sorted : nsIn K mainGlobals "sorted" = some none)
(z_enum : nsIn K mainGlobals "enumerate" = some none)
(z_int : nsIn K mainGlobals "int" = some none)
(z_bool : nsIn K mainGlobals "bool" = some none)
(z_str : nsIn K mainGlobals "str" = some none)
(z_tuple : nsIn K mainGlobals "tuple" = some none)
(z_any : nsIn K mainGlobals "any" = some none)
(z_dict : nsIn K mainGlobals "dict" = some none) :
    ∃ fd : FuncData, (∀ (s : Shared) (v : Value), BindsTo s fd ⟨[v], []⟩ [("_law_script", v)]) ∧ ∀ base : Heap, K.In base → base.Ns mainGlobals mg → FnOk l.prog w K mg base CX0 22 fa fd ["_law_script"] (spLaw K) := by
  have e := hfa.symm.trans (mg_of X G a_law)
  cases e
  have B : Blt mg := ⟨mg_none_of X G z_isi, mg_none_of X G z_len, mg_none_of X G z_all_, mg_none_of X G z_min_, mg_none_of X G z_range, mg_none_of X G z_list, mg_none_of X G z_sorted, mg_none_of X G z_enum, mg_none_of X G z_int, mg_none_of X G z_bool, mg_none_of X G z_str⟩
  have b_tuple := mg_none_of X G z_tuple
  have b_any := mg_none_of X G z_any
  have b_dict := mg_none_of X G z_dict
  have hmB := mg_of X G aB
  have cm : CMeth K C0 "__init__" m_binit := ⟨s_cm, r_cm, f_cm⟩
  have h_whole := mg_of X G a_whole
  have h_name := mg_of X G a_name
  have h_ckName := mg_of X G a_ckName
  have h_ckWeight := mg_of X G a_ckWeight
  have h_ckSteps := mg_of X G a_ckSteps
  have h_ckPlaces := mg_of X G a_ckPlaces
  have h_ckRule := mg_of X G a_ckRule
  have h_ageings := mg_of X G a_ageings
  have h_aged := mg_of X G a_aged
  have h_cell := mg_of X G a_cell
  have h_lwhole := mg_of X G a_lwhole
  have h_sign := mg_of X G a_sign
  have h_lnames := mg_of X G a_lnames
  have h_many := mg_of X G a_many
  have h_span := mg_of X G a_span
  have h_part := mg_of X G a_part
  have h_deed := mg_of X G a_deed
  have h_do := mg_of X G a_do
  have h_places := mg_of X G a_places
  have h_steps := mg_of X G a_steps
  have h_laged := mg_of X G a_laged
  have h_rested := mg_of X G a_rested
  have h_kinds := mg_of X G a_kinds
  have h_isGoing := mg_of X G a_isGoing
  have h_leftFaded := mg_of X G a_leftFaded
  have h_leftRest := mg_of X G a_leftRest
  have h_listed := mg_of X G a_listed
  have h_walked := mg_of X G a_walked
  have h_lknown := mg_of X G a_lknown
  have h_seen := mg_of X G a_seen
  subst d_askS
  have F_askS := funD_mk (st := sSAsk) (ds := [.int 1 t0S]) l_askS c_askS k_askS lt_askS
  have clS : Cls K CS := ⟨pgS, hdS, poS, saS⟩
  have TBS : BTxt K CS := ⟨clS, n1S, n2S, n3S, n4S, n5S, n6S⟩
  have TS : STxt K CS := ⟨TBS, n7S, n8S, n9S⟩
  have hmS := mg_of X G aS
  have MS_rest : Meth K CS "rest" m_rest := ⟨aS_mrest, i_mrest, k_mrest⟩
  have MS_strength : Meth K CS "strength" m_strength := ⟨aS_mstrength, i_mstrength, k_mstrength⟩
  have MS_beginAsk : Meth K CS "begin_ask" m_beginAsk := ⟨aS_mbeginAsk, i_mbeginAsk, k_mbeginAsk⟩
  have MS_grow : Meth K CS "grow" m_grow := ⟨aS_mgrow, i_mgrow, k_mgrow⟩
  have MS_beginDrop : Meth K CS "begin_drop" m_beginDrop := ⟨aS_mbeginDrop, i_mbeginDrop, k_mbeginDrop⟩
  have MS_passTime : Meth K CS "pass_time" m_passTime := ⟨aS_mpassTime, i_mpassTime, k_mpassTime⟩
  have MS_ageCounts : Meth K CS "age_counts" m_ageCounts := ⟨aS_mageCounts, i_mageCounts, k_mageCounts⟩
  have MS_timeNow : Meth K CS "time_now" m_timeNow := ⟨aS_mtimeNow, i_mtimeNow, k_mtimeNow⟩
  have MS_deedsDone : Meth K CS "deeds_done" m_deedsDone := ⟨aS_mdeedsDone, i_mdeedsDone, k_mdeedsDone⟩
  have MS_countOf : Meth K CS "count_of" m_countOf := ⟨aS_mcountOf, i_mcountOf, k_mcountOf⟩
  have MS_lastOf : Meth K CS "last_of" m_lastOf := ⟨aS_mlastOf, i_mlastOf, k_mlastOf⟩
  have MS_inOrder : Meth K CS "in_order" m_inOrder := ⟨aS_minOrder, i_minOrder, k_minOrder⟩
  have MS_sinit : Meth K CS "__init__" m_sinit := ⟨aS_msinit, i_msinit, k_msinit⟩
  have MS_sdrop : Meth K CS "drop" m_sdrop := ⟨aS_msdrop, i_msdrop, k_msdrop⟩
  have MS_takeIn : Meth K CS "take_in" m_takeIn := ⟨aS_mtakeIn, i_mtakeIn, k_mtakeIn⟩
  have MS_takeOff : Meth K CS "take_off" m_takeOff := ⟨aS_mtakeOff, i_mtakeOff, k_mtakeOff⟩
  have MS_sfade : Meth K CS "fade" m_sfade := ⟨aS_msfade, i_msfade, k_msfade⟩
  have MS_snames : Meth K CS "names" m_snames := ⟨aS_msnames, i_msnames, k_msnames⟩
  have MS_shas : Meth K CS "has" m_shas := ⟨aS_mshas, i_mshas, k_mshas⟩
  have MS_sgoings : Meth K CS "goings" m_sgoings := ⟨aS_msgoings, i_msgoings, k_msgoings⟩
  have MS_ask : Meth K CS "ask" fAS := ⟨a_askS, i_askS, k_askS⟩
  have mkS : Mk K CS m_sinit := ⟨mkS, aS_msinit, i_msinit, kcS⟩
  have MVS : MethV K CS "strength" m_strength := ⟨MS_strength, g_st, t_st, by decide⟩
  have MV := MVS
  refine ⟨fd, b_law, fun base _ _ => ?_⟩
  have g_whole := ok_whole (P := l.prog) (w := w) (base := base) F_whole B
  have g_name := ok_name (P := l.prog) (w := w) (base := base) F_name B
  have g_ckName := ok_ckName F_ckName g_name h_name
  have g_ckWeight := ok_ckWeight F_ckWeight g_whole h_whole
  have g_ckSteps := ok_ckSteps F_ckSteps g_whole h_whole
  have g_ckPlaces := ok_ckPlaces F_ckPlaces g_whole h_whole
  have g_ckRule := ok_ckRule F_ckRule g_whole h_whole
  have g_ageings := ok_ageings (P := l.prog) (w := w) (mg := mg) (base := base) F_ageings
  have g_aged := ok_aged (P := l.prog) (w := w) (base := base) F_aged B
  have oS_strength := ok_strength (P := l.prog) (w := w) (mg := mg) (base := base) (shelves CS) F_mstrength TBS
  have oS_grow := ok_grow (P := l.prog) (w := w) (mg := mg) (base := base) (shelves CS) F_mgrow TBS
  have oS_takeOff := ok_takeOff (P := l.prog) (w := w) (mg := mg) (base := base) F_mtakeOff TS
  have oS_fade := ok_sFade F_msfade TS oS_takeOff MS_takeOff
  have oS_ageCounts := ok_ageCounts (shelves CS) fadeS F_mageCounts TBS B g_aged h_aged oS_fade MS_sfade
  have oS_passTime := ok_passTime (shelves CS) fadeS F_mpassTime TBS g_ageings h_ageings oS_ageCounts MS_ageCounts
  have oS_beginAsk := ok_beginAsk (shelves CS) fadeS F_mbeginAsk TBS g_ckName h_ckName g_ckWeight h_ckWeight oS_passTime MS_passTime
  have oS_rest := ok_rest (shelves CS) fadeS F_mrest TBS g_ckSteps h_ckSteps oS_passTime MS_passTime
  have oS_beginDrop := ok_beginDrop (shelves CS) F_mbeginDrop TBS g_ckName h_ckName
  have oS_binit := ok_init F_binit TBS g_ckRule h_ckRule
  have oS_drop := ok_sDrop F_msdrop TS oS_beginDrop MS_beginDrop oS_takeOff MS_takeOff
  have oS_takeIn := ok_takeIn F_mtakeIn TS B oS_takeOff MS_takeOff oS_strength MV
  have oS_ask := ok_sAsk F_askS TS oS_beginAsk MS_beginAsk oS_grow MS_grow oS_takeIn MS_takeIn
  have oS_init := ok_sInit F_msinit TS g_ckPlaces h_ckPlaces hmB cm oS_binit
  have oS_time := ok_time (P := l.prog) (w := w) (mg := mg) (base := base) (shelves CS) F_mtimeNow TBS
  have oS_deeds := ok_deeds (P := l.prog) (w := w) (mg := mg) (base := base) (shelves CS) F_mdeedsDone TBS
  have oS_count := ok_countOf (shelves CS) F_mcountOf TBS g_ckName h_ckName
  have oS_last := ok_lastOf (shelves CS) F_mlastOf TBS g_ckName h_ckName
  have oS_inOrder := ok_inOrder (shelves CS) F_minOrder TBS B oS_strength MV
  have oS_names := ok_sNames F_msnames TS oS_inOrder MS_inOrder
  have oS_has := ok_sHas F_mshas TS g_ckName h_ckName
  have oS_goings := ok_sGoings (P := l.prog) (w := w) (base := base) F_msgoings B TS
  have g_cell := ok_cell (P := l.prog) (w := w) (base := base) F_cell B
  have g_lwhole := ok_lwhole (P := l.prog) (w := w) (base := base) F_lwhole B
  have g_sign := ok_sign6 (P := l.prog) (w := w) (mg := mg) (base := base) F_sign
  have g_lnames := ok_lnames F_lnames B g_sign h_sign
  have g_many := ok_many (P := l.prog) (w := w) (mg := mg) (base := base) F_many
  have g_span := ok_span (P := l.prog) (w := w) (mg := mg) (base := base) F_span
  have g_part := ok_part (P := l.prog) (w := w) (mg := mg) (base := base) F_part
  have g_deed := ok_deed (P := l.prog) (w := w) (base := base) F_deed B
  have gS_do := ok_do F_do clS oS_ask (askS_binds0 F_askS) (askS_binds1 F_askS) MS_ask (oS_rest.mono (k := 18) (by decide)) MS_rest (oS_drop.mono (k := 18) (by decide)) MS_sdrop
  have g_places := ok_places (P := l.prog) (w := w) (mg := mg) (base := base) F_places
  have g_steps := ok_steps (P := l.prog) (w := w) (base := base) F_steps B
  have g_laged := ok_laged (P := l.prog) (w := w) (mg := mg) (base := base) F_laged
  have g_rested := ok_rested F_rested g_lwhole h_lwhole
  have g_kinds := ok_kinds F_kinds B b_tuple g_lwhole h_lwhole
  have g_isGoing := ok_isGoing F_isGoing g_kinds h_kinds
  have g_leftFaded := ok_leftFaded F_leftFaded B b_any g_isGoing h_isGoing
  have g_leftRest := ok_leftRest F_leftRest B b_any g_isGoing h_isGoing
  have g_listed := ok_listed (P := l.prog) (w := w) (base := base) F_listed B
  have WGG : WG l.prog w K mg base := ⟨_, g_kinds, h_kinds, _, g_leftFaded, h_leftFaded, _, g_leftRest, h_leftRest⟩
  have g_walked := ok_walked F_walked B b_any WGG
  have LKG : LkG l.prog w K mg base CS := ⟨_, oS_names, MS_snames, _, oS_goings, MS_sgoings, _, oS_has, MS_shas, _, oS_count, MS_countOf, _, oS_last, MS_lastOf, _, oS_time, MS_timeNow, _, oS_deeds, MS_deedsDone⟩
  have g_lknown := ok_lKnown F_lknown B TS LKG g_lwhole h_lwhole
  have g_seen := ok_seen F_seen TS LKG g_listed h_listed g_lknown h_lknown
  have g_do := gS_do.imp (fun _ _ _ _ z => doS_do z)
  exact ok_law F_law B b_dict TS ⟨LKG, _, g_cell, h_cell, _, g_lnames, h_lnames, _, g_many, h_many, _, g_span, h_span, _, g_part, h_part, _, g_places, h_places, _, g_deed, h_deed, _, g_steps, h_steps, _, g_do, h_do, _, g_laged, h_laged, _, g_rested, h_rested, _, g_walked, h_walked, _, g_listed, h_listed, _, g_seen, h_seen⟩ mkS oS_init hmS
theorem walk {l : PySem.W.OpenLaw} {q : Program} {loose : List Str} {XP : (Str → Option Value) → Heap → Prop} {YP : World → Heap → Prop} {d : DefRec} {K : Params → PySem.W.Frag} (hn : l.most = some 63) (hdf : d.params.defaults = [])
    (hY : ∀ (w : World) (h : Heap), YP w h → (K w.params).In h)
    (F : ∀ (w : World) (mg : Str → Option Value) (fa : Addr) (h : Heap), (K w.params).In h → h.Ns mainGlobals mg → mg d.name = some (.ref fa) →
      ∃ fd : FuncData, (∀ (s : Shared) (u : Value), BindsTo s fd ⟨[u], []⟩ [("_law_script", u)]) ∧ ∀ base : Heap, (K w.params).In base → base.Ns mainGlobals mg → FnOk l.prog w (K w.params) mg base CX0 22 fa fd ["_law_script"] (spLaw (K w.params))) :
    PySem.W.WalkO q loose XP YP l.row.toRowW d [] (fun f vs => PySem.call f vs) :=
  L2.walk_of (n := 63) (k := 22) (x := "_law_script") (CX := fun _ => CX0) (sp := fun w => spLaw (K w.params)) hn (by decide) hdf ⟨rfl, by decide, by decide⟩ hY F (fun _ _ a ns hl _ hS => ⟨a, ns, rfl, hS, hl, fun _ => rfl⟩) fun _ _ _ _ _ z => z
end Lk
open PySem PySem.W PyProof.Rows
set_option maxRecDepth 100000 in
set_option maxHeartbeats 0 in
theorem PySem.Challenge.cw_leastasked_k06_whole_goings_walked_holds : PySem.Challenge.rw_leastasked_k06_whole_goings_walked.Holds := by
  w_on; o_law
  refine holds_open (q := Lk.view) (loose := ["Shelf"]) (Xt := Lk.seenX) (XP := XL Lk.view []) (Yf := (kHook Lk.KK Lk.KA Lk.ka).obs) (Ya := (kHook Lk.KK Lk.KA Lk.ka).val) (YP := (kHook Lk.KK Lk.KA Lk.ka).says) (N := 6270) Lk.left (kHook Lk.KK Lk.KA Lk.ka).of (kHook Lk.KK Lk.KA Lk.ka).keeps (fun s e => xl_of s (Bool.and_eq_true_iff.mp e).1) XL.keeps (by rfl) (by rfl) (by rfl) (fun s e => recFacts_of (Bool.and_eq_true_iff.mp e).2) (by rfl) (by first | assumption | decide +kernel) (by decide +kernel) ⟨rfl, rfl, rfl, rfl, rfl, by decide +kernel⟩ ?hw ?hc
  case hw => w_witness2
  case hc =>
  k_fill
  refine Lk.walk (l := PySem.Challenge.rw_leastasked_k06_whole_goings_walked) rfl rfl (fun w h Y => PySem.W.kIn_of (K := Lk.KK) (as := Lk.KA) (e := Lk.ka) Y) ?F
  case F =>
    intro w mg fa h KX G hmg
    refine' Lk.all_mk KX G hmg ?_ ?_ ?_ ?_ ?_ ?_ ?_ ?_ ?_ ?_ ?_ ?_ ?_ ?_ ?_ ?_ ?_ ?_ ?_ ?_ ?_ ?_ ?_ ?_ ?_ ?_ ?_ ?_ ?_ ?_ ?_ ?_ ?_ ?_ ?_ ?_ ?_ ?_ ?_ ?_ ?_ ?_ ?_ ?_ ?_ ?_ ?_ ?_ ?_ ?_ ?_ ?_ ?_ ?_ ?_ ?_ ?_ ?_ ?_ ?_ ?_ ?_ ?_ ?_ ?_ ?_ ?_ ?_ ?_ ?_ ?_ ?_ ?_ ?_ ?_ ?_ ?_ ?_ ?_ ?_ ?_ ?_ ?_ ?_ ?_ ?_ ?_ ?_ ?_ ?_ ?_ ?_ ?_ ?_ ?_ ?_ ?_ ?_ ?_ ?_ ?_ ?_ ?_ ?_ ?_ ?_ ?_ ?_ ?_ ?_ ?_ ?_ ?_ ?_ ?_ ?_ ?_ ?_ ?_ ?_ ?_ ?_ ?_ ?_ ?_ ?_ ?_ ?_ ?_ ?_ ?_ ?_ ?_ ?_ ?_ ?_ ?_ ?_ ?_ ?_ ?_ ?_ ?_ ?_ ?_ ?_ ?_ ?_ ?_ ?_ ?_ ?_ ?_ ?_ ?_ ?_ ?_ ?_ ?_ ?_ ?_ ?_ ?_ ?_ ?_ ?_ ?_ ?_ ?_ ?_ ?_ ?_ ?_ ?_ ?_ ?_ ?_ ?_ ?_ ?_ ?_ ?_ ?_ ?_ ?_ ?_ ?_
    any_goals first
      | k_is
      | exact rfl
      | exact fun s v => .of_eq rfl
      | (refine' L2.fun_mk ?l ?c ?k; (case l => k_is); (case c => k_is); (case k => k_is))
      | (refine' L2.funB_mk ?l ?c ?k ?h; (case l => k_is); (case c => k_is); (case k => k_is); (case h => first | (exact fun _ _ _ _ _ _ us hl => match us, hl with | [_], _ => rfl) | (exact fun _ _ _ _ _ _ us hl => match us, hl with | [_, _], _ => rfl) | (exact fun _ _ _ _ _ _ us hl => match us, hl with | [_, _, _], _ => rfl) | (exact fun _ _ _ _ _ _ us hl => match us, hl with | [_, _, _, _], _ => rfl) | (exact fun _ _ _ _ _ _ us hl => match us, hl with | [_, _, _, _, _], _ => rfl) | (exact fun _ _ _ _ _ _ us hl => match us, hl with | [_, _, _, _, _, _], _ => rfl) | (exact fun _ _ _ _ _ _ us hl => match us, hl with | [_, _, _, _, _, _, _], _ => rfl) | (exact fun _ _ _ _ _ _ us hl => match us, hl with | [_, _, _, _, _, _, _, _], _ => rfl)))
