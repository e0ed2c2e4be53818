/-
  How long lines of commands and replies are, of texts of at most 300 bytes.
  Conditions: none.
-/
import Derived.Test.YtllpjfbcjcnpcaaDoorWirLaw
namespace Go.Proofs.YtllpjfbcjcnpcaaDoor.Wi
open Go.RowKit
open Go.Proofs.YtllpjfbcjcnpcaaDoor.El
open Go.Proofs.YtllpjfbcjcnpcaaDoor.Df (bytes_inj)

theorem line_small {c : Cm} (h : Wi.Good c) (hp : c.pt.size ≤ 300) (hk : c.ky.size ≤ 300) : (lineL c).length ≤ 1000 := by
  have h1 := dg_size (n := c.sg) (by have := h.1.2; omega)
  have h2 := dg_size (n := c.st) (by have := h.2.1.2; omega)
  have h3 := dg_size (n := c.tr) (by have := h.2.2.1.2; omega)
  have h4 := way_len c.un
  have h5 := len_is c.pt
  have h6 := len_is c.ky
  unfold lineL
  simp only [List.length_append, List.length_cons, List.length_nil]
  omega
theorem line_smallR {r : Rp} (h : GoodR r) : (lineR r).length ≤ 1000 := by
  have h1 := dg_size (n := r.sg) (by have := h.1.2; omega)
  have h2 := dg_size (n := r.st) (by have := h.2.1.2; omega)
  have h3 := dg_size (n := r.tr) (by have := h.2.2.2; omega)
  have h4 := way_len r.un
  have h5 := how_len r.gd
  unfold lineR
  simp only [List.length_append, List.length_cons, List.length_nil]
  omega
end Go.Proofs.YtllpjfbcjcnpcaaDoor.Wi
