/- The landed queues keep what the laws of layer 11 need. -/
import Derived.Test.YtolccandekgmoaaQLandC
namespace Go.Proofs.Ytolccandekgmoaa
open Go.RowKit QueueMath
set_option linter.unusedVariables false

def quc (w0 : World) : QuC w0 where
  Qu := QuS
  upd h u hT := h.upd u hT
  num h := by obtain ⟨p, Or, hb, hp, h1, h2, h3, h4, h5⟩ := h; exact ⟨h2, h4, h5⟩
  zero w := QuS.zero w
  push w _ {_ _ _ _ _} h _ hv hn hm := qs_push w h hv hn hm
  push_nil w _ := qs_push_nil w
  remove w _ {_ _ _ _ _} h _ hv hn _ := qs_remove w h hv hn
  fill w _ {_ _ _ _} h _ hx _ := qs_fill w h hx
  wake w _ {_ _ _ _} h _ hx _ := qs_wake w h hx
  ready w _ {_ _ _} h _ hm := qs_ready w h hm
  full w _ {_ _ _} h _ hm := qs_full w h hm
  all w _ {_ _ _} h _ hm := qs_all w h hm
  has w _ {_ _ _ _ _} h _ hv _ := qs_has w h hv
end Go.Proofs.Ytolccandekgmoaa
